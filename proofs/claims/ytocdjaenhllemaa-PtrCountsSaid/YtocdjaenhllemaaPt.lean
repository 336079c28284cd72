/-
  The small functions of layer 8: Null, Check, Put, Get, of the program and of the document's answer.
-/
import Derived.Test.YtocdjaenhllemaaPv
import Derived.Test.YtocdjaenhllemaaCod0
namespace Go.Proofs.Ytocdjaenhllemaa
set_option maxRecDepth 4000
open Go.ChangeShapes Go.WideShapes Go.ChangeAt Go.RowKit

set_option maxHeartbeats 800000 in
theorem pnull_any (q : PtrV) (w : World) :
    Calls Try.prog 18 #[.agg (ptrRow q).toArray] w fun e w' => e = .returned (.bool (q.ad == 0)) ∧ Below w.heap.size w w' := by
  have hb := (Below.refl w.heap.size w).alloc (Nat.le_refl _) (.cells (ptrRow q).toArray 35)
  obtain ⟨c0, _, _⟩ := ptr_at (heap_alloc_new w (.cells (ptrRow q).toArray 35))
  have HB := Lib.hid hb
  clear hb
  obtain ⟨ad, bi, su, _, _, _⟩ := q
  dsimp only at c0 ⊢
  generalize (ptrRow _).toArray = AR at *
  go_enter Try.func18, Try.ntmps18
  go_wp2_with fail
  go_ret
  exact ⟨rfl, HB.out⟩
/-- Whether a pointer may be, on a device of so many sectors. -/
def mayB (q : PtrV) (n : Int) : Bool := if q.ad = 0 then decide (q = zeroPtr) else decide (2 ≤ q.ad) && decide (q.ad < n) && decide (q.bi ≠ 0)
def checkE (q : PtrV) (n : Int) : Int := if mayB q n then 0 else 4
def ptrB (q : PtrV) : List Int := putI q.ad 4 ++ (putI q.bi 8 ++ q.su)
theorem ptrB_length (q : PtrV) : (ptrB q).length = 44 := by simp [ptrB, putI_length, q.s0.1]
theorem ptrB_byt (q : PtrV) : Byt (ptrB q) := by
  intro z hz
  unfold ptrB at hz
  simp only [List.mem_append] at hz
  rcases hz with hz | hz | hz
  · exact putI_byt _ _ z hz
  · exact putI_byt _ _ z hz
  · exact q.s0.2 z hz
theorem numW_fit (z : Int) (k : Nat) (hk : k ≤ 8) (h1 : z < 2 ^ (8 * k)) : numW z (k : Int) = (putI z k, 0) := by
  unfold numW
  rw [if_neg (by simp; omega)]
  simp
theorem WStep.same {w w' : World} {P B k : Nat} {v : Value} {l : List Int} (s : WStep w w' P B v l) (hk : k < w.heap.size) (h1 : k ≠ P) (h2 : v.ownBlock ≠ some k) : w'.heap[k]? = w.heap[k]? := by
  obtain ⟨_, _, t, _⟩ := s
  refine t.block k hk ?_
  simp only [List.mem_cons, Option.mem_toList]
  rintro (e | e)
  · exact h1 e
  · exact h2 e
theorem own_small {w : World} {B n k : Nat} {e : TypeId} {v : Value} {xs : List Value} (h : w.ownsRow B e k v n xs) : v.ownBlock ≠ some w.heap.size := by
  intro e
  have := (h.lt _ e).2
  omega
set_option maxRecDepth 100000 in
set_option maxHeartbeats 1600000 in
theorem pput_any (P B : Nat) (v : Value) (l : List Int) (q : PtrV) (w : World) (h : WO w P B v l) (h63 : l.length ≤ 140737488100000) (hB : B ≤ w.heap.size) :
    Calls Try.prog 16 #[.pointer (some ⟨P, 0, none⟩), .agg (ptrRow q).toArray] w fun e w' => e = .returned (.int .i64 0) ∧ WStep w w' P B v (l ++ ptrB q) := by
  have hb := (Below.refl w.heap.size w).alloc (Nat.le_refl _) (.cells (ptrRow q).toArray 35)
  have hA := heap_alloc_new w (.cells (ptrRow q).toArray 35)
  have hT : w.heap.size < (w.alloc (.cells (ptrRow q).toArray 35)).heap.size := by simp
  have hv := own_small h.own
  have hP : w.heap.size ≠ P := by have := h.lt; omega
  have h1 := h.below hb
  have hB1 := Nat.le_trans hB hb.size
  have ha := q.a0
  have hbi := q.b0
  have HN1 := Lib.hid (wnum_any P B v l q.ad 4 _ h1 ha.1 (by omega) hB1)
  rw [show numW q.ad 4 = (putI q.ad 4, 0) from numW_fit q.ad 4 (by decide) (by omega)] at HN1
  have HX := Lib.hid (show ∀ w2, WStep (w.alloc (.cells (ptrRow q).toArray 35)) w2 P B v (l ++ putI q.ad 4) → w2.heap[w.heap.size]? = some (.cells (ptrRow q).toArray 35 (0, 0)) ∧ (w.alloc (.cells (ptrRow q).toArray 35)).heap.size ≤ w2.heap.size from
    fun w2 s => ⟨(s.same hT hP hv).trans hA, by obtain ⟨_, _, t, _⟩ := s; exact t.size⟩)
  have SH := Lib.hid (show (Try.prog.info? 33).map (·.size) = some (q.su.map (Value.int .u8)).length by rw [show (Try.prog.info? 33).map (·.size) = some 32 by kernel_rfl, List.length_map, q.s0.1])
  have HB := Lib.hid hb
  have HVP := Lib.hid (And.intro hP (And.intro hv (And.intro hT (And.intro h63 hB1))))
  obtain ⟨c0, _, _⟩ := ptr_at hA
  have hw : IntKind.u64.wrap q.ad = q.ad := IntWalk.u64_in _ (by omega)
  have HQ := Lib.hid (And.intro hbi q.s0)
  have HE := Lib.hid (show ptrB q = putI q.ad 4 ++ (putI q.bi 8 ++ q.su) from rfl)
  have HAT := Lib.hid (fun (W : World) (t : Nat) (h : W.heap[w.heap.size]? = some (.cells (ptrRow q).toArray t (0, 0))) => ptr_at h)
  clear h hA hT hv hP h1 hB1 hbi hb h63 hB
  generalize ptrB q = PB at *
  generalize (ptrRow q).toArray = AR at *
  generalize q.ad = ad at *
  generalize q.bi = bi at *
  generalize q.su = su at *
  clear ha
  go_enter Try.func16, Try.ntmps16
  go_wp2_with fail
  refine HN1.out.mono ?_
  rintro e w2 ⟨rfl, s1⟩
  obtain ⟨g2, hs2⟩ := HX.out w2 s1
  obtain ⟨v1, o1, t1, n1⟩ := s1
  have HN2 := Lib.hid (wnum_any P B v1 _ bi 8 w2 o1 HQ.out.1.1 (by rw [List.length_append, putI_length]; have := HVP.out.2.2.2.1; omega) (Nat.le_trans HVP.out.2.2.2.2 hs2))
  rw [show numW bi 8 = (putI bi 8, 0) from numW_fit bi 8 (by decide) (by have := HQ.out.1.2; omega)] at HN2
  have hv1 : v1.ownBlock ≠ some w.heap.size := by
    rcases n1 with e | ⟨g, e, hg⟩
    · rw [e]; exact HVP.out.2.1
    · rw [e]; intro e2; have := HVP.out.2.2.1; simp only [Option.some.injEq] at e2; omega
  have G2 := Lib.hid g2
  obtain ⟨_, c1, _⟩ := HAT.out w2 _ g2
  have S1 := Lib.hid (And.intro t1 (And.intro n1 hv1))
  have SZ2 := Lib.hid hs2
  clear g2 hs2 o1 t1 n1 hv1 HN1 HX c0 hw
  go_wp2_with fail
  refine HN2.out.mono ?_
  rintro e w3 ⟨rfl, s2⟩
  have g3 := (s2.same (Nat.lt_of_lt_of_le HVP.out.2.2.1 SZ2.out) HVP.out.1 S1.out.2.2).trans G2.out
  obtain ⟨v2, o2, t2, n2⟩ := s2
  have HN3 := Lib.hid (whash_any P B v2 _ su w3 o2 HQ.out.2.1 HQ.out.2.2 (by rw [List.length_append, List.length_append, putI_length, putI_length]; have := HVP.out.2.2.2.1; omega) (Nat.le_trans HVP.out.2.2.2.2 (Nat.le_trans SZ2.out t2.size)))
  have HRG := Lib.hid (HAT.out w3 _ g3).2.2
  have S2 := Lib.hid (And.intro t2 n2)
  clear g3 o2 t2 n2 c1 HN2 G2 HAT
  go_wp2_with (first
    | (with_reducible refine wpList_load_mid (op := ⟨some 18, _, _, _, _, _⟩) rfl 33 _ rfl w.heap.size 2 rfl (su.map (Value.int .u8)) _ HRG.out Try.underlying33 rfl SH.out ?_))
  have HN3' := HN3.out
  unfold i8s at HN3'
  refine HN3'.mono ?_
  rintro e w4 ⟨rfl, s3⟩
  have HS := Lib.hid ((wstep_trans S1.out.1 S1.out.2.1 (wstep_trans S2.out.1 S2.out.2 s3)).of_below HB.out)
  clear s3 HN3 HRG HN3'
  go_wp2_with fail
  go_ret
  refine ⟨rfl, ?_⟩
  rw [HE.out, ← List.append_assoc, ← List.append_assoc]
  exact HS.out
theorem wl_ptr (w0 w : World) (P : Nat) (l : List Int) (q : PtrV) (h : WL w0 w P l) (h63 : l.length ≤ 140737488100000) :
    Calls Try.prog 16 #[.pointer (some ⟨P, 0, none⟩), .agg (ptrRow q).toArray] w fun e w' => e = .returned (.int .i64 0) ∧ WL w0 w' P (l ++ ptrB q) := by
  obtain ⟨v, h, hP, hb⟩ := h
  exact (pput_any P _ v l q w h h63 hb.size).mono fun e w' ⟨he, hs⟩ => ⟨he, wl_step h hP hb hs⟩
theorem pput_nil (q : PtrV) (w : World) :
    Calls Try.prog 16 #[.pointer none, .agg (ptrRow q).toArray] w fun e w' => e = .returned (.int .i64 1) ∧ Below w.heap.size w w' := by
  have HB := Lib.hid ((Below.refl w.heap.size w).alloc (Nat.le_refl _) (.cells (ptrRow q).toArray 35))
  generalize (ptrRow q).toArray = AR at *
  go_enter Try.func16, Try.ntmps16
  go_wp2_with fail
  go_ret
  exact ⟨rfl, HB.out⟩
end Go.Proofs.Ytocdjaenhllemaa
