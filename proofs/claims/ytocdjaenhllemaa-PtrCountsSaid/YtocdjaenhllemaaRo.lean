/-
  Drop of the reference's Counts of layer 8.
-/
import Derived.Test.YtocdjaenhllemaaRc
import Derived.Test.YtocdjaenhllemaaAp
import Derived.Test.YtocdjaenhllemaaCn
namespace Go.Proofs.Ytocdjaenhllemaa
set_option maxRecDepth 4000
set_option linter.unusedVariables false
open Go.ChangeShapes Go.WideShapes Go.ChangeAt Go.RowKit

theorem own_low {w : World} {B B' n k : Nat} {e : TypeId} {v : Value} {xs : List Value} (h : w.ownsRow B e k v n xs) (hb : B' ≤ B) : w.ownsRow B' e k v n xs := by
  refine ⟨h.1, ?_⟩
  rcases h.2 with q | ⟨g, cap, cur, e1, e2, q⟩
  · exact .inl q
  · exact .inr ⟨g, cap, cur, e1, Nat.le_trans hb e2, q⟩
theorem erase_at : ∀ (L : List PtrV) (i : Nat) (q : PtrV), q ∉ L.take i → L[i]? = some q → L.erase q = L.take i ++ L.drop (i + 1)
  | [], i, q, _, h => by simp at h
  | p :: L, 0, q, _, h => by
    simp at h
    subst h
    simp
  | p :: L, i + 1, q, hn, h => by
    have hne : p ≠ q := fun e => hn (by simp [e])
    have ih := erase_at L i q (fun hm => hn (by simp [hm])) (by simpa using h)
    rw [List.erase_cons_tail (by simpa using hne), ih]
    simp
/-- The worlds of 'c.L = append(append([]api.Ptr{}, c.L[:i]...), c.L[i+1:]...)'. -/
theorem drop_worlds {w0 w : World} {M n c i : Nat} {a : Option Addr} {L : List PtrV} {q : PtrV} (h : RQ w0 w M (.slice a n c) L) (hn : L.length = n) (hL : n ≤ 1000) (hi : i < n) (hq : q ∉ L.take i) (hx : L[i]? = some q) :
    ∃ (a2 a3 a5 a6 : Option Addr) (c2 c3 c5 c6 m5 m6 : Nat) (w5 w6 : World),
      (∀ W', (Instr.slice 27 (.slice a n c) none (some (.int .i64 (i : Int))) none).run Try.prog W' = .ok (.slice a2 i c2) W') ∧
      (∀ W', (Instr.slice 27 (.slice a n c) (some (.int .i64 ((i : Int) + 1))) none none).run Try.prog W' = .ok (.slice a3 (n - (i + 1)) c3) W') ∧
      (Builtin.append_ #[27, 27] 27 #[.slice (some ⟨w.heap.size, 0, none⟩) 0 0, .slice a2 i c2]).run Try.prog (w.alloc (.cells #[] 35)).drew = .ok (.slice a5 m5 c5) w5 ∧
      (Builtin.append_ #[27, 27] 27 #[.slice a5 m5 c5, .slice a3 (n - (i + 1)) c3]).run Try.prog w5 = .ok (.slice a6 m6 c6) w6 ∧
      (w.alloc (.cells #[] 35)).drew.cell? ⟨M, 0, none⟩ = some (.slice a n c) ∧ w5.cell? ⟨M, 0, none⟩ = some (.slice a n c) ∧
      w6.heap[M]? = some (.cells #[.slice a n c] 29 (0, 0)) ∧
      RQ w0 (w6.setCell ⟨M, 0, none⟩ (.slice a6 m6 c6)) M (.slice a6 m6 c6) (L.erase q) ∧ Touch [M] w (w6.setCell ⟨M, 0, none⟩ (.slice a6 m6 c6)) ∧ (∃ b, (Value.slice a6 m6 c6).ownBlock = some b ∧ w.heap.size ≤ b) ∧ Touch [M] w (w.alloc (.cells #[] 35)).drew ∧ Touch [M] w w5 ∧ Touch [M] w w6 := by
  obtain ⟨a', c', e', hps⟩ := ps_own h.own
  injection e' with e1 e2 e3
  subst e1 e3
  have hcap : n ≤ c := by
    rcases h.own.2 with ⟨e, h0⟩ | ⟨g, cap, cur, e, _, _, h1, _⟩
    · injection e with e1 e2 e3; omega
    · injection e with e1 e2 e3; omega
  have hPS : PS w (.slice a n c) L := ⟨a, c, by rw [hn], hps⟩
  obtain ⟨a3, hs3, hp3⟩ := cut_ps w a n c (i + 1) L hPS (by omega) hcap
  obtain ⟨hs2, hp2⟩ := to_ps w a n c i L hPS (by omega) hcap
  generalize (if c = 0 then a else a.map (·.add 0)) = a2 at *
  have hm1 : Below w.heap.size w (w.alloc (.cells #[] 35)).drew := ((Below.refl _ w).alloc (Nat.le_refl _) _).drew
  have how : (w.alloc (.cells #[] 35)).drew.ownsRow w.heap.size 35 34 (.slice (some ⟨w.heap.size, 0, none⟩) 0 0) 0 (rowsP []) :=
    World.ownsRow_lit (base := w.heap.size) (e := 35) (size := 34) w.drew #[] 0 (Nat.le_refl _) (by decide) rfl
  obtain ⟨a5, c5, w5, hr5, ho5, hg5, hb5⟩ := append_ps _ w.heap.size 0 _ _ [] _ how (hp2.below hm1) (by omega) (by rw [List.length_take]; omega) hm1.size
  have hm2 : Below w.heap.size w w5 := hm1.trans (below_grown8 hm1.size hg5 (Nat.le_refl _))
  obtain ⟨a6, c6, w6, hr6, ho6, hg6, hb6⟩ := append_ps w5 w.heap.size _ _ _ _ _ ho5 (hp3.below hm2) (by rw [List.length_take]; omega) (by rw [List.length_drop]; omega) hm2.size
  have hm3 : Below w.heap.size w w6 := hm2.grown hg6 hm2.size (fun g e => (ho5.lt g e).1)
  have hM := h.lt
  have hM6 : w6.heap[M]? = some (.cells #[.slice a n c] 29 (0, 0)) := (hm3.block M hM).trans h.cell
  obtain ⟨b, hob, hbb⟩ : ∃ b, (Value.slice a6 (0 + (L.take i).length + (L.drop (i + 1)).length) c6).ownBlock = some b ∧ w.heap.size ≤ b := by
    rcases hb6 with e | e
    · rcases hb5 with e2 | e2
      · exact ⟨w.heap.size, by rw [e, e2]; rfl, Nat.le_refl _⟩
      · exact ⟨_, by rw [e, e2], hm1.size⟩
    · exact ⟨_, e, hm2.size⟩
  have hlt : (0 + (L.take i).length) = i := by rw [List.length_take]; omega
  have hg7 : w6.grownBy (w6.setCell ⟨M, 0, none⟩ (.slice a6 (0 + (L.take i).length + (L.drop (i + 1)).length) c6)) (some M) := grownBy_setCell' w6 M _
  have t7 : Touch [M] w (w6.setCell ⟨M, 0, none⟩ (.slice a6 (0 + (L.take i).length + (L.drop (i + 1)).length) c6)) := (Touch.of_below hm3).trans ((Touch.grown hg7).more (fun k hk => by simpa using hk))
  refine ⟨a2, a3, a5, a6, c, c - (i + 1), c5, c6, _, _, w5, w6, hs2, by simpa using hs3, hr5, hr6, (cell1 ((hm1.block M hM).trans h.cell)).1, (cell1 ((hm2.block M hM).trans h.cell)).1, hM6, ⟨Boxed.set _ hM6, h.new, ?_, h.bel.trans (t7.below h.bel.size (fun k hk => by rw [List.mem_singleton.1 hk]; exact h.new))⟩, t7, ⟨b, hob, hbb⟩, Touch.of_below hm1, Touch.of_below hm2, Touch.of_below hm3⟩
  rw [erase_at L i q hq hx]
  have e4 : (L.take i ++ L.drop (i + 1)).length = 0 + (L.take i).length + (L.drop (i + 1)).length := by rw [List.length_append]; omega
  rw [e4]
  rw [List.nil_append] at ho6
  exact (own_low ho6 h.bel.size).kept hg7 (.inr (by rw [hob]; intro e; cases e; omega))
set_option maxRecDepth 100000 in
set_option maxHeartbeats 20000000 in
theorem rdrop8 (w0 w : World) (M : Nat) (v : Value) (L : List PtrV) (q : PtrV) (h : RQ w0 w M v L) (hL : L.length ≤ 1000) :
    Calls Try.prog 7 #[.pointer (some ⟨M, 0, none⟩), .agg (ptrRow q).toArray] w fun e w' => e = .returned (.tuple #[.int .i64 (dropA (L.count q)).1, .int .i64 (dropA (L.count q)).2]) ∧ ∃ v', RQ w0 w' M v' (L.erase q) ∧ RStep w w' M v v' := by
  obtain ⟨hr1, hb1, hs1⟩ := box_facts w q
  have h1 := h.below hb1
  obtain ⟨a, c, rfl, hps⟩ := ps_own h1.own
  have hc0 := cell_of_row _ M 0 _ _ _ h1.cell
  have HPS := Lib.hid hps
  have HQB := Lib.hid (heap_alloc_new w (.cells (ptrRow q).toArray 35))
  have HBW := Lib.hid hb1
  have SWQ := Lib.hid (size_ptrA q)
  have hzp := zero_ptr
  have HZL := Lib.hid (fun q : PtrV => show (ptrRow zeroPtr).toArray.size = (ptrRow q).toArray.size by simp [ptrRow_length])
  obtain ⟨ZA, hZA⟩ : ∃ ZA, (ptrRow zeroPtr).toArray = ZA := ⟨_, rfl⟩
  rw [hZA] at hzp HZL
  have HRQ := Lib.hid h1
  have HMT := Lib.hid (show M < w.heap.size from h.lt)
  obtain ⟨n, hn⟩ : ∃ n, L.length = n := ⟨_, rfl⟩
  have HNN := Lib.hid hn
  rw [hn] at hc0 hL HRQ ⊢
  have n0 : (0 : Int) ≤ (n : Int) := by omega
  have n1 : (n : Int) ≤ 1000 := by omega
  have HN1 := Lib.hid hL
  have HEQ := Lib.hid (fun p : PtrV => eq_ptr p q)
  have LN := Lib.hid (fun W => lit_noptr W)
  clear h h1 hr1 hs1 hps hZA hn hL hb1
  obtain ⟨T, hT⟩ : ∃ T, w.heap.size = T := ⟨_, rfl⟩
  rw [hT] at HQB
  have HT := Lib.hid hT
  obtain ⟨QR, hQR⟩ : ∃ QR, (ptrRow q).toArray = QR := ⟨_, rfl⟩
  rw [hQR] at HQB HBW SWQ hc0 HPS HRQ ⊢
  have HQR := Lib.hid hQR
  clear hQR
  generalize hw1 : w.alloc (.cells QR 35) = w1 at *
  go_enter Try.func7, Try.ntmps7
  go_upto_region 1 with fail
  try rw [hw1]
  try rw [hT]
  clear hw1 hT
  go_wp2_with fail
  clear hc0
  go_loopw [6, 13] (fun _ v13 wr => ∃ i : Nat, i ≤ n ∧ v13 = .int .i64 (i : Int) ∧ q ∉ L.take i ∧ Below w1.heap.size w1 wr) (fun _ v _ => n - (intOf v).toNat)
  case atStart => exact ⟨0, by omega, rfl, by simp, Below.refl _ _⟩
  case round =>
    obtain ⟨i, hi, rfl, hnq, hB⟩ := hrel
    by_cases hlt : i < n
    · obtain ⟨p, hxi⟩ : ∃ p, L[i]? = some p := ⟨_, List.getElem?_eq_getElem (by have := HNN.out; omega)⟩
      obtain ⟨b, off, rfl, hrg0⟩ := HPS.out i p hxi
      have hrg := range_below hrg0 hB
      have HEP := Lib.hid (HEQ.out p)
      have HXI := Lib.hid hxi
      have HNQ := Lib.hid hnq
      have hix := index_ptr b off n c i hlt
      have SWC := Lib.hid (size_ptr p)
      have SWR := Lib.hid (size_ptrA p)
      have EW := Lib.hid (HZL.out p)
      have WO := Lib.hid (ptrRow_one p)
      have HRG := Lib.hid hrg
      have HLT := Lib.hid hlt
      have iI : (i : Int) < (n : Int) := by omega
      have i0 : (0 : Int) ≤ (i : Int) := by omega
      have HB := Lib.hid hB
      have HQ2 := Lib.hid ((hB.block T (Array.getElem?_eq_some_iff.1 HQB.out).1).trans HQB.out)
      have HTW := Lib.hid (show T < wr.heap.size by have := (Array.getElem?_eq_some_iff.1 HQB.out).1; have := hB.size; omega)
      clear hi hlt hrg hrg0 hxi hB hnq
      go_upto_region 4 with (first
        | (with_reducible refine wpList_load_mid (op := ⟨some 17, _, _, _, _, _⟩) rfl 35 _ rfl b (off + i * 34) rfl (ptrRow p) _ HRG.out Try.underlying35 rfl SWC.out ?_)
        | (with_reducible refine wpList_store_row (o := ⟨none, .store _ (.tmp 7) _, _, _, _, _⟩) rfl 35 _ _ rfl wr.heap.size (ptrRow p).toArray rfl rfl 35 ZA (heap_alloc_new wr _) SWR.out EW.out WO.out ?_))
      clear hix
      obtain ⟨h7, hb7⟩ := new_row8 wr ZA (ptrRow p).toArray
      generalize World.setRow _ wr.heap.size _ = w7 at *
      have H7 := Lib.hid h7
      have HB7 := Lib.hid (HB.out.trans (hb7.mono HB.out.size))
      have HQ7 := Lib.hid ((hb7.block T HTW.out).trans HQ2.out)
      rw [HQR.out] at HEP
      clear h7 hb7 HRG SWC EW WO HB HQ2
      generalize (ptrRow p).toArray = AR at *
      by_cases hpq : p = q
      · rw [decide_eq_true hpq] at HEP
        subst hpq
        have heq := HEP.out
        have HR7 := Lib.hid (HRQ.out.below HB7.out)
        have hc1 := (cell1 HR7.out.cell).1
        obtain ⟨a2, a3, a5, a6, c2, c3, c5, c6, m5, m6, w5, w6, e1, e2, e3, e4, e5, e6, e7, e8, e9, e10, t1, t5, t6⟩ := drop_worlds HR7.out HNN.out HN1.out HLT.out HNQ.out HXI.out
        have HA1 := Lib.hid e3
        have HA2 := Lib.hid e4
        have HS0 := Lib.hid (show w7.drew.cell? ⟨M, 0, none⟩ = some (.slice (some ⟨b, off, none⟩) n c) from hc1)
        have HS1 := Lib.hid e5
        have HS2 := Lib.hid e6
        have HC3 := Lib.hid (cell1 e7)
        have HS3 := Lib.hid (cell1 e7).1
        have HCZ := Lib.hid (show ¬ L.count p = 0 from fun e => (List.count_eq_zero.1 e) (List.mem_of_getElem? HXI.out))
        have HDA := Lib.hid (show dropA (L.count p) = ((((L.erase p).count p : Nat) : Int), (0 : Int)) by unfold dropA; rw [if_neg HCZ.out, List.count_erase_self]; congr 1; have := HCZ.out; omega)
        have HQ4 := Lib.hid ((e9.block T (Array.getElem?_eq_some_iff.1 HQ7.out).1 (by have := HMT.out; have := HT.out; simp; omega)).trans HQ7.out)
        have HE8 := Lib.hid e8
        have HE9 := Lib.hid e9
        have HE10 := Lib.hid e10
        have HOF := Lib.hid (rof8 w0 _ M _ (L.erase p) p e8 (by have : (L.erase p).length ≤ L.length := List.length_erase_le; have := HNN.out; have := HN1.out; omega))
        rw [HQR.out] at HOF
        have HT0 := Lib.hid (show Touch [M] w7 w7.drew from Touch.of_below (Below.refl _ w7).drew)
        have HT1 := Lib.hid t1
        have HT2 := Lib.hid t5
        have HT3 := Lib.hid t6
        have HT4 := Lib.hid e9
        have HTT := Lib.hid (show Touch (M :: (Value.slice (some ⟨b, off, none⟩) n c).ownBlock.toList) w _ from ((Touch.of_below HBW.out).trans (Touch.of_below HB7.out)).trans (HE9.out.more (fun k hk => by simp at hk; simp [hk])))
        have HBB := Lib.hid (show (Value.slice a6 m6 c6).ownBlock = (Value.slice (some ⟨b, off, none⟩) n c).ownBlock ∨ ∃ b9, (Value.slice a6 m6 c6).ownBlock = some b9 ∧ w.heap.size ≤ b9 from by
          obtain ⟨b9, h1, h2⟩ := HE10.out
          exact .inr ⟨b9, h1, Nat.le_trans HBW.out.size (Nat.le_trans HB7.out.size h2)⟩)
        clear e3 e4 e5 e6 e7 e8 e9 e10 t1 t5 t6 HR7 HCZ HE9 HE10
        obtain ⟨w8, hw8⟩ : ∃ w8, w6.setCell ⟨M, 0, none⟩ (.slice a6 m6 c6) = w8 := ⟨_, rfl⟩
        rw [hw8] at HTT HE8 HOF HQ4 HT4
        obtain ⟨cq, hcq⟩ : ∃ cq : Nat, (L.erase p).count p = cq := ⟨_, rfl⟩
        rw [hcq] at HOF HDA
        obtain ⟨m3, hm3⟩ : ∃ m3, n - (i + 1) = m3 := ⟨_, rfl⟩
        rw [hm3] at e2 HA2
        clear hcq hm3
        clear HEP
        go_upto_region 5 with (first
          | (with_reducible refine wpList_load_row (o := ⟨some 18, _, _, _, _, _⟩) rfl 35 _ rfl wr.heap.size rfl 35 AR (0, 0) _ H7.out Try.underlying35 rfl SWR.out ?_)
          | (with_reducible refine wpList_load_row (o := ⟨some 19, _, _, _, _, _⟩) rfl 35 _ rfl T rfl 35 QR (0, 0) _ HQ7.out Try.underlying35 rfl SWQ.out ?_))
        clear heq hc1
        have hwr : IntKind.i64.wrap ((i : Int) + 1) = (i : Int) + 1 := IntWalk.i64_in _ (by omega)
        try simp only [Act.put]
        refine wp_region_noPanic ?_
        refine wp_region_held_drew (S := fun W => Touch [M] w7 W) (by kernel_rfl) HT0.out (fun hHeld => ?_)
        refine wpAnyH_take (i := 0) (oi := ⟨some 21, _, _, _, _, _⟩) (v := ?_) rfl (by kernel_rfl) (by decide +kernel) (by decide +kernel) (fun _ _ _ h => h) (Or.inl ⟨by rfl, ?_⟩) (by assumption) ?_
        rotate_left 1
        · (intro w' hSw; go_simp; try with_reducible rfl)
        try simp only [Act.put, List.setIfInBounds_toArray, List.set_cons_zero, List.set_cons_succ]
        refine wpAnyH_take (i := 2) (oi := ⟨some 23, _, _, _, _, _⟩) (v := ?_) rfl (by kernel_rfl) (by decide +kernel) (by decide +kernel) (fun _ _ _ h => h) (Or.inl ⟨by rfl, ?_⟩) (by assumption) ?_
        rotate_left 1
        · (intro w' hSw; go_simp; try with_reducible rfl)
        try simp only [Act.put, List.setIfInBounds_toArray, List.set_cons_zero, List.set_cons_succ]
        refine wpAnyH_take (i := 3) (oi := ⟨some 24, _, _, _, _, _⟩) (v := ?_) rfl (by kernel_rfl) (by decide +kernel) (by decide +kernel) (fun _ _ _ h => h) (Or.inl ⟨by rfl, ?_⟩) (by assumption) ?_
        rotate_left 1
        · (intro w' hSw; go_simp; try with_reducible rfl)
        try simp only [Act.put, List.setIfInBounds_toArray, List.set_cons_zero, List.set_cons_succ]
        refine wpAnyH_take (i := 4) (oi := ⟨some 25, _, _, _, _, _⟩) (v := ?_) rfl (by kernel_rfl) (by decide +kernel) (by decide +kernel) (fun _ _ _ h => h) (Or.inl ⟨by rfl, ?_⟩) (by assumption) ?_
        rotate_left 1
        · (intro w' hSw; go_simp; try with_reducible rfl)
        try simp only [Act.put, List.setIfInBounds_toArray, List.set_cons_zero, List.set_cons_succ]
        refine wpAnyH_take (i := 6) (oi := ⟨some 27, _, _, _, _, _⟩) (v := ?_) rfl (by kernel_rfl) (by decide +kernel) (by decide +kernel) (fun _ _ _ h => h) (Or.inl ⟨by rfl, ?_⟩) (by assumption) ?_
        rotate_left 1
        · (intro w' hSw; go_simp; try with_reducible rfl)
        try simp only [Act.put, List.setIfInBounds_toArray, List.set_cons_zero, List.set_cons_succ]
        refine wpAnyH_take (i := 9) (oi := ⟨some 30, _, _, _, _, _⟩) (v := ?_) rfl (by kernel_rfl) (by decide +kernel) (by decide +kernel) (fun _ _ _ h => h) (Or.inl ⟨by rfl, ?_⟩) (by assumption) ?_
        rotate_left 1
        · (intro w' hSw; go_simp; try with_reducible rfl)
        try simp only [Act.put, List.setIfInBounds_toArray, List.set_cons_zero, List.set_cons_succ]
        refine wpAnyH_take (i := 10) (oi := ⟨some 31, _, _, _, _, _⟩) (v := ?_) rfl (by kernel_rfl) (by decide +kernel) (by decide +kernel) (fun _ _ _ h => h) (Or.inl ⟨by rfl, ?_⟩) (by assumption) ?_
        rotate_left 1
        · (intro w' hSw; go_simp; try with_reducible rfl)
        try simp only [Act.put, List.setIfInBounds_toArray, List.set_cons_zero, List.set_cons_succ]
        refine wpAnyH_take (i := 11) (oi := ⟨some 32, _, _, _, _, _⟩) (v := ?_) rfl (by kernel_rfl) (by decide +kernel) (by decide +kernel) (fun _ _ _ h => h) (Or.inl ⟨by rfl, ?_⟩) (by assumption) ?_
        rotate_left 1
        · (intro w' hSw; go_simp; try with_reducible rfl)
        try simp only [Act.put, List.setIfInBounds_toArray, List.set_cons_zero, List.set_cons_succ]
        refine wpAnyH_take (i := 13) (oi := ⟨some 34, _, _, _, _, _⟩) (v := ?_) rfl (by kernel_rfl) (by decide +kernel) (by decide +kernel) (fun _ _ _ h => h) (Or.inl ⟨by rfl, ?_⟩) (by assumption) ?_
        rotate_left 1
        · (intro w' hSw; go_simp; try with_reducible rfl)
        try simp only [Act.put, List.setIfInBounds_toArray, List.set_cons_zero, List.set_cons_succ]
        refine wpAnyH_take (i := 14) (oi := ⟨some 35, _, _, _, _, _⟩) (v := ?_) rfl (by kernel_rfl) (by decide +kernel) (by decide +kernel) (fun _ _ _ h => h) (Or.inl ⟨by rfl, ?_⟩) (by assumption) ?_
        rotate_left 1
        · (intro w' hSw; go_simp; try with_reducible rfl)
        try simp only [Act.put, List.setIfInBounds_toArray, List.set_cons_zero, List.set_cons_succ]
        refine wpAnyH_ready (rs := [1, 5, 12]) (by decide +kernel) (by simp) ?_
        refine AllReadyH.cons rfl (fun K hK => ?_) (AllReadyH.cons rfl (fun K hK => ?_) (AllReadyH.cons rfl (fun K hK => ?_) AllReadyH.nil))
        · have hln := LN.out w7.drew
          go_simp
          refine hK.out _ _ HT1.out (fun hHeld => ?_)
          clear hK K
          try simp only [Act.put, List.setIfInBounds_toArray, List.set_cons_zero, List.set_cons_succ]
          clear hln
          refine wpAnyH_ready (rs := [5, 12]) (by decide +kernel) (by simp) ?_
          refine AllReadyH.cons rfl (fun K hK => ?_) (AllReadyH.cons rfl (fun K hK => ?_) AllReadyH.nil)
          · have hc := HS1.out
            go_simp
            refine hK.out _ _ HT1.out (fun hHeld => ?_)
            clear hK K
            try simp only [Act.put, List.setIfInBounds_toArray, List.set_cons_zero, List.set_cons_succ]
            clear hc
            refine wpAnyH_take (i := 7) (oi := ⟨some 28, _, _, _, _, _⟩) (v := ?_) rfl (by kernel_rfl) (by decide +kernel) (by decide +kernel) (fun _ _ _ h => h) (Or.inl ⟨by rfl, ?_⟩) (by assumption) ?_
            rotate_left 1
            · (intro w' hSw; go_simp; try with_reducible rfl)
            try simp only [Act.put, List.setIfInBounds_toArray, List.set_cons_zero, List.set_cons_succ]
            refine wpAnyH_ready (rs := [8, 12]) (by decide +kernel) (by simp) ?_
            refine AllReadyH.cons rfl (fun K hK => ?_) (AllReadyH.cons rfl (fun K hK => ?_) AllReadyH.nil)
            · rw [if_pos (by kernel_rfl)]
              refine wp_append_at (o := ⟨some 29, _, _, _, _, _⟩) (.tmp 22) (.tmp 28) 27 rfl _ _ rfl rfl _ _ HA1.out ?_
              refine hK.out _ _ HT2.out (fun hHeld => ?_)
              clear hK K
              try simp only [Act.put, List.setIfInBounds_toArray, List.set_cons_zero, List.set_cons_succ]
              refine wpAnyH_ready (rs := [12]) (by decide +kernel) (by simp) ?_
              refine AllReadyH.cons rfl (fun K hK => ?_) AllReadyH.nil
              · have hc := HS2.out
                go_simp
                refine hK.out _ _ HT2.out (fun hHeld => ?_)
                clear hK K
                try simp only [Act.put, List.setIfInBounds_toArray, List.set_cons_zero, List.set_cons_succ]
                clear hc
                refine wpAnyH_take (i := 15) (oi := ⟨some 36, _, _, _, _, _⟩) (v := ?_) rfl (by kernel_rfl) (by decide +kernel) (by decide +kernel) (fun _ _ _ h => h) (Or.inl ⟨by rfl, ?_⟩) (by assumption) ?_
                rotate_left 1
                · (intro w' hSw; go_simp; try with_reducible rfl)
                try simp only [Act.put, List.setIfInBounds_toArray, List.set_cons_zero, List.set_cons_succ]
                refine wpAnyH_ready (rs := [16]) (by decide +kernel) (by simp) ?_
                refine AllReadyH.cons rfl (fun K hK => ?_) AllReadyH.nil
                · rw [if_pos (by kernel_rfl)]
                  refine wp_append_at (o := ⟨some 37, _, _, _, _, _⟩) (.tmp 29) (.tmp 36) 27 rfl _ _ rfl rfl _ _ HA2.out ?_
                  refine hK.out _ _ HT3.out (fun hHeld => ?_)
                  clear hK K
                  try simp only [Act.put, List.setIfInBounds_toArray, List.set_cons_zero, List.set_cons_succ]
                  refine wpAnyH_take (i := 17) (oi := ⟨some 38, _, _, _, _, _⟩) (v := ?_) rfl (by kernel_rfl) (by decide +kernel) (by decide +kernel) (fun _ _ _ h => h) (Or.inl ⟨by rfl, ?_⟩) (by assumption) ?_
                  rotate_left 1
                  · (intro w' hSw; go_simp; try with_reducible rfl)
                  try simp only [Act.put, List.setIfInBounds_toArray, List.set_cons_zero, List.set_cons_succ]
                  refine wpAnyH_take (i := 18) (oi := ⟨some 39, _, _, _, _, _⟩) (v := ?_) rfl (by kernel_rfl) (by decide +kernel) (by decide +kernel) (fun _ _ _ h => h) (Or.inl ⟨by rfl, ?_⟩) (by assumption) ?_
                  rotate_left 1
                  · (intro w' hSw; go_simp; try with_reducible rfl)
                  try simp only [Act.put, List.setIfInBounds_toArray, List.set_cons_zero, List.set_cons_succ]
                  refine wpAnyH_ready (rs := [19]) (by decide +kernel) (by simp) ?_
                  refine AllReadyH.cons rfl (fun K hK => ?_) AllReadyH.nil
                  have hc := HC3.out.1
                  have hf := HC3.out.2
                  go_simp
                  refine hK.out _ _ HT4.out (fun hHeld => ?_)
                  clear hK K hc hf hHeld
                  refine wpAnyH_done (by decide +kernel) ?_ _
                  refine NoPanic.normal ?_
                  go_wp2_with (first
                    | (with_reducible refine wpList_load_row (o := ⟨some 41, _, _, _, _, _⟩) rfl 35 _ rfl T rfl 35 QR (0, 0) _ HQ4.out Try.underlying35 rfl SWQ.out ?_))
                  refine HOF.out.mono ?_
                  rintro e w9 ⟨rfl, hb9⟩
                  have HF9 := Lib.hid hb9
                  clear hb9 HOF
                  go_wp2_with fail
                  go_ret2
                  rw [HDA.out]
                  exact ⟨rfl, _, HE8.out.below HF9.out, HTT.out.trans (Touch.of_below HF9.out), HBB.out⟩
            · have hc := HS1.out
              go_simp
              refine hK.out _ _ HT1.out (fun hHeld => ?_)
              clear hK K
              try simp only [Act.put, List.setIfInBounds_toArray, List.set_cons_zero, List.set_cons_succ]
              clear hc
              refine wpAnyH_take (i := 15) (oi := ⟨some 36, _, _, _, _, _⟩) (v := ?_) rfl (by kernel_rfl) (by decide +kernel) (by decide +kernel) (fun _ _ _ h => h) (Or.inl ⟨by rfl, ?_⟩) (by assumption) ?_
              rotate_left 1
              · (intro w' hSw; go_simp; try with_reducible rfl)
              try simp only [Act.put, List.setIfInBounds_toArray, List.set_cons_zero, List.set_cons_succ]
              refine wpAnyH_ready (rs := [8]) (by decide +kernel) (by simp) ?_
              refine AllReadyH.cons rfl (fun K hK => ?_) AllReadyH.nil
              · rw [if_pos (by kernel_rfl)]
                refine wp_append_at (o := ⟨some 29, _, _, _, _, _⟩) (.tmp 22) (.tmp 28) 27 rfl _ _ rfl rfl _ _ HA1.out ?_
                refine hK.out _ _ HT2.out (fun hHeld => ?_)
                clear hK K
                try simp only [Act.put, List.setIfInBounds_toArray, List.set_cons_zero, List.set_cons_succ]
                refine wpAnyH_ready (rs := [16]) (by decide +kernel) (by simp) ?_
                refine AllReadyH.cons rfl (fun K hK => ?_) AllReadyH.nil
                · rw [if_pos (by kernel_rfl)]
                  refine wp_append_at (o := ⟨some 37, _, _, _, _, _⟩) (.tmp 29) (.tmp 36) 27 rfl _ _ rfl rfl _ _ HA2.out ?_
                  refine hK.out _ _ HT3.out (fun hHeld => ?_)
                  clear hK K
                  try simp only [Act.put, List.setIfInBounds_toArray, List.set_cons_zero, List.set_cons_succ]
                  refine wpAnyH_take (i := 17) (oi := ⟨some 38, _, _, _, _, _⟩) (v := ?_) rfl (by kernel_rfl) (by decide +kernel) (by decide +kernel) (fun _ _ _ h => h) (Or.inl ⟨by rfl, ?_⟩) (by assumption) ?_
                  rotate_left 1
                  · (intro w' hSw; go_simp; try with_reducible rfl)
                  try simp only [Act.put, List.setIfInBounds_toArray, List.set_cons_zero, List.set_cons_succ]
                  refine wpAnyH_take (i := 18) (oi := ⟨some 39, _, _, _, _, _⟩) (v := ?_) rfl (by kernel_rfl) (by decide +kernel) (by decide +kernel) (fun _ _ _ h => h) (Or.inl ⟨by rfl, ?_⟩) (by assumption) ?_
                  rotate_left 1
                  · (intro w' hSw; go_simp; try with_reducible rfl)
                  try simp only [Act.put, List.setIfInBounds_toArray, List.set_cons_zero, List.set_cons_succ]
                  refine wpAnyH_ready (rs := [19]) (by decide +kernel) (by simp) ?_
                  refine AllReadyH.cons rfl (fun K hK => ?_) AllReadyH.nil
                  have hc := HC3.out.1
                  have hf := HC3.out.2
                  go_simp
                  refine hK.out _ _ HT4.out (fun hHeld => ?_)
                  clear hK K hc hf hHeld
                  refine wpAnyH_done (by decide +kernel) ?_ _
                  refine NoPanic.normal ?_
                  go_wp2_with (first
                    | (with_reducible refine wpList_load_row (o := ⟨some 41, _, _, _, _, _⟩) rfl 35 _ rfl T rfl 35 QR (0, 0) _ HQ4.out Try.underlying35 rfl SWQ.out ?_))
                  refine HOF.out.mono ?_
                  rintro e w9 ⟨rfl, hb9⟩
                  have HF9 := Lib.hid hb9
                  clear hb9 HOF
                  go_wp2_with fail
                  go_ret2
                  rw [HDA.out]
                  exact ⟨rfl, _, HE8.out.below HF9.out, HTT.out.trans (Touch.of_below HF9.out), HBB.out⟩
          · have hc := HS1.out
            go_simp
            refine hK.out _ _ HT1.out (fun hHeld => ?_)
            clear hK K
            try simp only [Act.put, List.setIfInBounds_toArray, List.set_cons_zero, List.set_cons_succ]
            clear hc
            refine wpAnyH_take (i := 15) (oi := ⟨some 36, _, _, _, _, _⟩) (v := ?_) rfl (by kernel_rfl) (by decide +kernel) (by decide +kernel) (fun _ _ _ h => h) (Or.inl ⟨by rfl, ?_⟩) (by assumption) ?_
            rotate_left 1
            · (intro w' hSw; go_simp; try with_reducible rfl)
            try simp only [Act.put, List.setIfInBounds_toArray, List.set_cons_zero, List.set_cons_succ]
            refine wpAnyH_ready (rs := [5]) (by decide +kernel) (by simp) ?_
            refine AllReadyH.cons rfl (fun K hK => ?_) AllReadyH.nil
            · have hc := HS1.out
              go_simp
              refine hK.out _ _ HT1.out (fun hHeld => ?_)
              clear hK K
              try simp only [Act.put, List.setIfInBounds_toArray, List.set_cons_zero, List.set_cons_succ]
              clear hc
              refine wpAnyH_take (i := 7) (oi := ⟨some 28, _, _, _, _, _⟩) (v := ?_) rfl (by kernel_rfl) (by decide +kernel) (by decide +kernel) (fun _ _ _ h => h) (Or.inl ⟨by rfl, ?_⟩) (by assumption) ?_
              rotate_left 1
              · (intro w' hSw; go_simp; try with_reducible rfl)
              try simp only [Act.put, List.setIfInBounds_toArray, List.set_cons_zero, List.set_cons_succ]
              refine wpAnyH_ready (rs := [8]) (by decide +kernel) (by simp) ?_
              refine AllReadyH.cons rfl (fun K hK => ?_) AllReadyH.nil
              · rw [if_pos (by kernel_rfl)]
                refine wp_append_at (o := ⟨some 29, _, _, _, _, _⟩) (.tmp 22) (.tmp 28) 27 rfl _ _ rfl rfl _ _ HA1.out ?_
                refine hK.out _ _ HT2.out (fun hHeld => ?_)
                clear hK K
                try simp only [Act.put, List.setIfInBounds_toArray, List.set_cons_zero, List.set_cons_succ]
                refine wpAnyH_ready (rs := [16]) (by decide +kernel) (by simp) ?_
                refine AllReadyH.cons rfl (fun K hK => ?_) AllReadyH.nil
                · rw [if_pos (by kernel_rfl)]
                  refine wp_append_at (o := ⟨some 37, _, _, _, _, _⟩) (.tmp 29) (.tmp 36) 27 rfl _ _ rfl rfl _ _ HA2.out ?_
                  refine hK.out _ _ HT3.out (fun hHeld => ?_)
                  clear hK K
                  try simp only [Act.put, List.setIfInBounds_toArray, List.set_cons_zero, List.set_cons_succ]
                  refine wpAnyH_take (i := 17) (oi := ⟨some 38, _, _, _, _, _⟩) (v := ?_) rfl (by kernel_rfl) (by decide +kernel) (by decide +kernel) (fun _ _ _ h => h) (Or.inl ⟨by rfl, ?_⟩) (by assumption) ?_
                  rotate_left 1
                  · (intro w' hSw; go_simp; try with_reducible rfl)
                  try simp only [Act.put, List.setIfInBounds_toArray, List.set_cons_zero, List.set_cons_succ]
                  refine wpAnyH_take (i := 18) (oi := ⟨some 39, _, _, _, _, _⟩) (v := ?_) rfl (by kernel_rfl) (by decide +kernel) (by decide +kernel) (fun _ _ _ h => h) (Or.inl ⟨by rfl, ?_⟩) (by assumption) ?_
                  rotate_left 1
                  · (intro w' hSw; go_simp; try with_reducible rfl)
                  try simp only [Act.put, List.setIfInBounds_toArray, List.set_cons_zero, List.set_cons_succ]
                  refine wpAnyH_ready (rs := [19]) (by decide +kernel) (by simp) ?_
                  refine AllReadyH.cons rfl (fun K hK => ?_) AllReadyH.nil
                  have hc := HC3.out.1
                  have hf := HC3.out.2
                  go_simp
                  refine hK.out _ _ HT4.out (fun hHeld => ?_)
                  clear hK K hc hf hHeld
                  refine wpAnyH_done (by decide +kernel) ?_ _
                  refine NoPanic.normal ?_
                  go_wp2_with (first
                    | (with_reducible refine wpList_load_row (o := ⟨some 41, _, _, _, _, _⟩) rfl 35 _ rfl T rfl 35 QR (0, 0) _ HQ4.out Try.underlying35 rfl SWQ.out ?_))
                  refine HOF.out.mono ?_
                  rintro e w9 ⟨rfl, hb9⟩
                  have HF9 := Lib.hid hb9
                  clear hb9 HOF
                  go_wp2_with fail
                  go_ret2
                  rw [HDA.out]
                  exact ⟨rfl, _, HE8.out.below HF9.out, HTT.out.trans (Touch.of_below HF9.out), HBB.out⟩
        · have hc := HS0.out
          go_simp
          refine hK.out _ _ HT0.out (fun hHeld => ?_)
          clear hK K
          try simp only [Act.put, List.setIfInBounds_toArray, List.set_cons_zero, List.set_cons_succ]
          clear hc
          refine wpAnyH_take (i := 7) (oi := ⟨some 28, _, _, _, _, _⟩) (v := ?_) rfl (by kernel_rfl) (by decide +kernel) (by decide +kernel) (fun _ _ _ h => h) (Or.inl ⟨by rfl, ?_⟩) (by assumption) ?_
          rotate_left 1
          · (intro w' hSw; go_simp; try with_reducible rfl)
          try simp only [Act.put, List.setIfInBounds_toArray, List.set_cons_zero, List.set_cons_succ]
          refine wpAnyH_ready (rs := [1, 12]) (by decide +kernel) (by simp) ?_
          refine AllReadyH.cons rfl (fun K hK => ?_) (AllReadyH.cons rfl (fun K hK => ?_) AllReadyH.nil)
          · have hln := LN.out w7.drew
            go_simp
            refine hK.out _ _ HT1.out (fun hHeld => ?_)
            clear hK K
            try simp only [Act.put, List.setIfInBounds_toArray, List.set_cons_zero, List.set_cons_succ]
            clear hln
            refine wpAnyH_ready (rs := [8, 12]) (by decide +kernel) (by simp) ?_
            refine AllReadyH.cons rfl (fun K hK => ?_) (AllReadyH.cons rfl (fun K hK => ?_) AllReadyH.nil)
            · rw [if_pos (by kernel_rfl)]
              refine wp_append_at (o := ⟨some 29, _, _, _, _, _⟩) (.tmp 22) (.tmp 28) 27 rfl _ _ rfl rfl _ _ HA1.out ?_
              refine hK.out _ _ HT2.out (fun hHeld => ?_)
              clear hK K
              try simp only [Act.put, List.setIfInBounds_toArray, List.set_cons_zero, List.set_cons_succ]
              refine wpAnyH_ready (rs := [12]) (by decide +kernel) (by simp) ?_
              refine AllReadyH.cons rfl (fun K hK => ?_) AllReadyH.nil
              · have hc := HS2.out
                go_simp
                refine hK.out _ _ HT2.out (fun hHeld => ?_)
                clear hK K
                try simp only [Act.put, List.setIfInBounds_toArray, List.set_cons_zero, List.set_cons_succ]
                clear hc
                refine wpAnyH_take (i := 15) (oi := ⟨some 36, _, _, _, _, _⟩) (v := ?_) rfl (by kernel_rfl) (by decide +kernel) (by decide +kernel) (fun _ _ _ h => h) (Or.inl ⟨by rfl, ?_⟩) (by assumption) ?_
                rotate_left 1
                · (intro w' hSw; go_simp; try with_reducible rfl)
                try simp only [Act.put, List.setIfInBounds_toArray, List.set_cons_zero, List.set_cons_succ]
                refine wpAnyH_ready (rs := [16]) (by decide +kernel) (by simp) ?_
                refine AllReadyH.cons rfl (fun K hK => ?_) AllReadyH.nil
                · rw [if_pos (by kernel_rfl)]
                  refine wp_append_at (o := ⟨some 37, _, _, _, _, _⟩) (.tmp 29) (.tmp 36) 27 rfl _ _ rfl rfl _ _ HA2.out ?_
                  refine hK.out _ _ HT3.out (fun hHeld => ?_)
                  clear hK K
                  try simp only [Act.put, List.setIfInBounds_toArray, List.set_cons_zero, List.set_cons_succ]
                  refine wpAnyH_take (i := 17) (oi := ⟨some 38, _, _, _, _, _⟩) (v := ?_) rfl (by kernel_rfl) (by decide +kernel) (by decide +kernel) (fun _ _ _ h => h) (Or.inl ⟨by rfl, ?_⟩) (by assumption) ?_
                  rotate_left 1
                  · (intro w' hSw; go_simp; try with_reducible rfl)
                  try simp only [Act.put, List.setIfInBounds_toArray, List.set_cons_zero, List.set_cons_succ]
                  refine wpAnyH_take (i := 18) (oi := ⟨some 39, _, _, _, _, _⟩) (v := ?_) rfl (by kernel_rfl) (by decide +kernel) (by decide +kernel) (fun _ _ _ h => h) (Or.inl ⟨by rfl, ?_⟩) (by assumption) ?_
                  rotate_left 1
                  · (intro w' hSw; go_simp; try with_reducible rfl)
                  try simp only [Act.put, List.setIfInBounds_toArray, List.set_cons_zero, List.set_cons_succ]
                  refine wpAnyH_ready (rs := [19]) (by decide +kernel) (by simp) ?_
                  refine AllReadyH.cons rfl (fun K hK => ?_) AllReadyH.nil
                  have hc := HC3.out.1
                  have hf := HC3.out.2
                  go_simp
                  refine hK.out _ _ HT4.out (fun hHeld => ?_)
                  clear hK K hc hf hHeld
                  refine wpAnyH_done (by decide +kernel) ?_ _
                  refine NoPanic.normal ?_
                  go_wp2_with (first
                    | (with_reducible refine wpList_load_row (o := ⟨some 41, _, _, _, _, _⟩) rfl 35 _ rfl T rfl 35 QR (0, 0) _ HQ4.out Try.underlying35 rfl SWQ.out ?_))
                  refine HOF.out.mono ?_
                  rintro e w9 ⟨rfl, hb9⟩
                  have HF9 := Lib.hid hb9
                  clear hb9 HOF
                  go_wp2_with fail
                  go_ret2
                  rw [HDA.out]
                  exact ⟨rfl, _, HE8.out.below HF9.out, HTT.out.trans (Touch.of_below HF9.out), HBB.out⟩
            · have hc := HS1.out
              go_simp
              refine hK.out _ _ HT1.out (fun hHeld => ?_)
              clear hK K
              try simp only [Act.put, List.setIfInBounds_toArray, List.set_cons_zero, List.set_cons_succ]
              clear hc
              refine wpAnyH_take (i := 15) (oi := ⟨some 36, _, _, _, _, _⟩) (v := ?_) rfl (by kernel_rfl) (by decide +kernel) (by decide +kernel) (fun _ _ _ h => h) (Or.inl ⟨by rfl, ?_⟩) (by assumption) ?_
              rotate_left 1
              · (intro w' hSw; go_simp; try with_reducible rfl)
              try simp only [Act.put, List.setIfInBounds_toArray, List.set_cons_zero, List.set_cons_succ]
              refine wpAnyH_ready (rs := [8]) (by decide +kernel) (by simp) ?_
              refine AllReadyH.cons rfl (fun K hK => ?_) AllReadyH.nil
              · rw [if_pos (by kernel_rfl)]
                refine wp_append_at (o := ⟨some 29, _, _, _, _, _⟩) (.tmp 22) (.tmp 28) 27 rfl _ _ rfl rfl _ _ HA1.out ?_
                refine hK.out _ _ HT2.out (fun hHeld => ?_)
                clear hK K
                try simp only [Act.put, List.setIfInBounds_toArray, List.set_cons_zero, List.set_cons_succ]
                refine wpAnyH_ready (rs := [16]) (by decide +kernel) (by simp) ?_
                refine AllReadyH.cons rfl (fun K hK => ?_) AllReadyH.nil
                · rw [if_pos (by kernel_rfl)]
                  refine wp_append_at (o := ⟨some 37, _, _, _, _, _⟩) (.tmp 29) (.tmp 36) 27 rfl _ _ rfl rfl _ _ HA2.out ?_
                  refine hK.out _ _ HT3.out (fun hHeld => ?_)
                  clear hK K
                  try simp only [Act.put, List.setIfInBounds_toArray, List.set_cons_zero, List.set_cons_succ]
                  refine wpAnyH_take (i := 17) (oi := ⟨some 38, _, _, _, _, _⟩) (v := ?_) rfl (by kernel_rfl) (by decide +kernel) (by decide +kernel) (fun _ _ _ h => h) (Or.inl ⟨by rfl, ?_⟩) (by assumption) ?_
                  rotate_left 1
                  · (intro w' hSw; go_simp; try with_reducible rfl)
                  try simp only [Act.put, List.setIfInBounds_toArray, List.set_cons_zero, List.set_cons_succ]
                  refine wpAnyH_take (i := 18) (oi := ⟨some 39, _, _, _, _, _⟩) (v := ?_) rfl (by kernel_rfl) (by decide +kernel) (by decide +kernel) (fun _ _ _ h => h) (Or.inl ⟨by rfl, ?_⟩) (by assumption) ?_
                  rotate_left 1
                  · (intro w' hSw; go_simp; try with_reducible rfl)
                  try simp only [Act.put, List.setIfInBounds_toArray, List.set_cons_zero, List.set_cons_succ]
                  refine wpAnyH_ready (rs := [19]) (by decide +kernel) (by simp) ?_
                  refine AllReadyH.cons rfl (fun K hK => ?_) AllReadyH.nil
                  have hc := HC3.out.1
                  have hf := HC3.out.2
                  go_simp
                  refine hK.out _ _ HT4.out (fun hHeld => ?_)
                  clear hK K hc hf hHeld
                  refine wpAnyH_done (by decide +kernel) ?_ _
                  refine NoPanic.normal ?_
                  go_wp2_with (first
                    | (with_reducible refine wpList_load_row (o := ⟨some 41, _, _, _, _, _⟩) rfl 35 _ rfl T rfl 35 QR (0, 0) _ HQ4.out Try.underlying35 rfl SWQ.out ?_))
                  refine HOF.out.mono ?_
                  rintro e w9 ⟨rfl, hb9⟩
                  have HF9 := Lib.hid hb9
                  clear hb9 HOF
                  go_wp2_with fail
                  go_ret2
                  rw [HDA.out]
                  exact ⟨rfl, _, HE8.out.below HF9.out, HTT.out.trans (Touch.of_below HF9.out), HBB.out⟩
          · have hc := HS0.out
            go_simp
            refine hK.out _ _ HT0.out (fun hHeld => ?_)
            clear hK K
            try simp only [Act.put, List.setIfInBounds_toArray, List.set_cons_zero, List.set_cons_succ]
            clear hc
            refine wpAnyH_take (i := 15) (oi := ⟨some 36, _, _, _, _, _⟩) (v := ?_) rfl (by kernel_rfl) (by decide +kernel) (by decide +kernel) (fun _ _ _ h => h) (Or.inl ⟨by rfl, ?_⟩) (by assumption) ?_
            rotate_left 1
            · (intro w' hSw; go_simp; try with_reducible rfl)
            try simp only [Act.put, List.setIfInBounds_toArray, List.set_cons_zero, List.set_cons_succ]
            refine wpAnyH_ready (rs := [1]) (by decide +kernel) (by simp) ?_
            refine AllReadyH.cons rfl (fun K hK => ?_) AllReadyH.nil
            · have hln := LN.out w7.drew
              go_simp
              refine hK.out _ _ HT1.out (fun hHeld => ?_)
              clear hK K
              try simp only [Act.put, List.setIfInBounds_toArray, List.set_cons_zero, List.set_cons_succ]
              clear hln
              refine wpAnyH_ready (rs := [8]) (by decide +kernel) (by simp) ?_
              refine AllReadyH.cons rfl (fun K hK => ?_) AllReadyH.nil
              · rw [if_pos (by kernel_rfl)]
                refine wp_append_at (o := ⟨some 29, _, _, _, _, _⟩) (.tmp 22) (.tmp 28) 27 rfl _ _ rfl rfl _ _ HA1.out ?_
                refine hK.out _ _ HT2.out (fun hHeld => ?_)
                clear hK K
                try simp only [Act.put, List.setIfInBounds_toArray, List.set_cons_zero, List.set_cons_succ]
                refine wpAnyH_ready (rs := [16]) (by decide +kernel) (by simp) ?_
                refine AllReadyH.cons rfl (fun K hK => ?_) AllReadyH.nil
                · rw [if_pos (by kernel_rfl)]
                  refine wp_append_at (o := ⟨some 37, _, _, _, _, _⟩) (.tmp 29) (.tmp 36) 27 rfl _ _ rfl rfl _ _ HA2.out ?_
                  refine hK.out _ _ HT3.out (fun hHeld => ?_)
                  clear hK K
                  try simp only [Act.put, List.setIfInBounds_toArray, List.set_cons_zero, List.set_cons_succ]
                  refine wpAnyH_take (i := 17) (oi := ⟨some 38, _, _, _, _, _⟩) (v := ?_) rfl (by kernel_rfl) (by decide +kernel) (by decide +kernel) (fun _ _ _ h => h) (Or.inl ⟨by rfl, ?_⟩) (by assumption) ?_
                  rotate_left 1
                  · (intro w' hSw; go_simp; try with_reducible rfl)
                  try simp only [Act.put, List.setIfInBounds_toArray, List.set_cons_zero, List.set_cons_succ]
                  refine wpAnyH_take (i := 18) (oi := ⟨some 39, _, _, _, _, _⟩) (v := ?_) rfl (by kernel_rfl) (by decide +kernel) (by decide +kernel) (fun _ _ _ h => h) (Or.inl ⟨by rfl, ?_⟩) (by assumption) ?_
                  rotate_left 1
                  · (intro w' hSw; go_simp; try with_reducible rfl)
                  try simp only [Act.put, List.setIfInBounds_toArray, List.set_cons_zero, List.set_cons_succ]
                  refine wpAnyH_ready (rs := [19]) (by decide +kernel) (by simp) ?_
                  refine AllReadyH.cons rfl (fun K hK => ?_) AllReadyH.nil
                  have hc := HC3.out.1
                  have hf := HC3.out.2
                  go_simp
                  refine hK.out _ _ HT4.out (fun hHeld => ?_)
                  clear hK K hc hf hHeld
                  refine wpAnyH_done (by decide +kernel) ?_ _
                  refine NoPanic.normal ?_
                  go_wp2_with (first
                    | (with_reducible refine wpList_load_row (o := ⟨some 41, _, _, _, _, _⟩) rfl 35 _ rfl T rfl 35 QR (0, 0) _ HQ4.out Try.underlying35 rfl SWQ.out ?_))
                  refine HOF.out.mono ?_
                  rintro e w9 ⟨rfl, hb9⟩
                  have HF9 := Lib.hid hb9
                  clear hb9 HOF
                  go_wp2_with fail
                  go_ret2
                  rw [HDA.out]
                  exact ⟨rfl, _, HE8.out.below HF9.out, HTT.out.trans (Touch.of_below HF9.out), HBB.out⟩
        · have hc := HS0.out
          go_simp
          refine hK.out _ _ HT0.out (fun hHeld => ?_)
          clear hK K
          try simp only [Act.put, List.setIfInBounds_toArray, List.set_cons_zero, List.set_cons_succ]
          clear hc
          refine wpAnyH_take (i := 15) (oi := ⟨some 36, _, _, _, _, _⟩) (v := ?_) rfl (by kernel_rfl) (by decide +kernel) (by decide +kernel) (fun _ _ _ h => h) (Or.inl ⟨by rfl, ?_⟩) (by assumption) ?_
          rotate_left 1
          · (intro w' hSw; go_simp; try with_reducible rfl)
          try simp only [Act.put, List.setIfInBounds_toArray, List.set_cons_zero, List.set_cons_succ]
          refine wpAnyH_ready (rs := [1, 5]) (by decide +kernel) (by simp) ?_
          refine AllReadyH.cons rfl (fun K hK => ?_) (AllReadyH.cons rfl (fun K hK => ?_) AllReadyH.nil)
          · have hln := LN.out w7.drew
            go_simp
            refine hK.out _ _ HT1.out (fun hHeld => ?_)
            clear hK K
            try simp only [Act.put, List.setIfInBounds_toArray, List.set_cons_zero, List.set_cons_succ]
            clear hln
            refine wpAnyH_ready (rs := [5]) (by decide +kernel) (by simp) ?_
            refine AllReadyH.cons rfl (fun K hK => ?_) AllReadyH.nil
            · have hc := HS1.out
              go_simp
              refine hK.out _ _ HT1.out (fun hHeld => ?_)
              clear hK K
              try simp only [Act.put, List.setIfInBounds_toArray, List.set_cons_zero, List.set_cons_succ]
              clear hc
              refine wpAnyH_take (i := 7) (oi := ⟨some 28, _, _, _, _, _⟩) (v := ?_) rfl (by kernel_rfl) (by decide +kernel) (by decide +kernel) (fun _ _ _ h => h) (Or.inl ⟨by rfl, ?_⟩) (by assumption) ?_
              rotate_left 1
              · (intro w' hSw; go_simp; try with_reducible rfl)
              try simp only [Act.put, List.setIfInBounds_toArray, List.set_cons_zero, List.set_cons_succ]
              refine wpAnyH_ready (rs := [8]) (by decide +kernel) (by simp) ?_
              refine AllReadyH.cons rfl (fun K hK => ?_) AllReadyH.nil
              · rw [if_pos (by kernel_rfl)]
                refine wp_append_at (o := ⟨some 29, _, _, _, _, _⟩) (.tmp 22) (.tmp 28) 27 rfl _ _ rfl rfl _ _ HA1.out ?_
                refine hK.out _ _ HT2.out (fun hHeld => ?_)
                clear hK K
                try simp only [Act.put, List.setIfInBounds_toArray, List.set_cons_zero, List.set_cons_succ]
                refine wpAnyH_ready (rs := [16]) (by decide +kernel) (by simp) ?_
                refine AllReadyH.cons rfl (fun K hK => ?_) AllReadyH.nil
                · rw [if_pos (by kernel_rfl)]
                  refine wp_append_at (o := ⟨some 37, _, _, _, _, _⟩) (.tmp 29) (.tmp 36) 27 rfl _ _ rfl rfl _ _ HA2.out ?_
                  refine hK.out _ _ HT3.out (fun hHeld => ?_)
                  clear hK K
                  try simp only [Act.put, List.setIfInBounds_toArray, List.set_cons_zero, List.set_cons_succ]
                  refine wpAnyH_take (i := 17) (oi := ⟨some 38, _, _, _, _, _⟩) (v := ?_) rfl (by kernel_rfl) (by decide +kernel) (by decide +kernel) (fun _ _ _ h => h) (Or.inl ⟨by rfl, ?_⟩) (by assumption) ?_
                  rotate_left 1
                  · (intro w' hSw; go_simp; try with_reducible rfl)
                  try simp only [Act.put, List.setIfInBounds_toArray, List.set_cons_zero, List.set_cons_succ]
                  refine wpAnyH_take (i := 18) (oi := ⟨some 39, _, _, _, _, _⟩) (v := ?_) rfl (by kernel_rfl) (by decide +kernel) (by decide +kernel) (fun _ _ _ h => h) (Or.inl ⟨by rfl, ?_⟩) (by assumption) ?_
                  rotate_left 1
                  · (intro w' hSw; go_simp; try with_reducible rfl)
                  try simp only [Act.put, List.setIfInBounds_toArray, List.set_cons_zero, List.set_cons_succ]
                  refine wpAnyH_ready (rs := [19]) (by decide +kernel) (by simp) ?_
                  refine AllReadyH.cons rfl (fun K hK => ?_) AllReadyH.nil
                  have hc := HC3.out.1
                  have hf := HC3.out.2
                  go_simp
                  refine hK.out _ _ HT4.out (fun hHeld => ?_)
                  clear hK K hc hf hHeld
                  refine wpAnyH_done (by decide +kernel) ?_ _
                  refine NoPanic.normal ?_
                  go_wp2_with (first
                    | (with_reducible refine wpList_load_row (o := ⟨some 41, _, _, _, _, _⟩) rfl 35 _ rfl T rfl 35 QR (0, 0) _ HQ4.out Try.underlying35 rfl SWQ.out ?_))
                  refine HOF.out.mono ?_
                  rintro e w9 ⟨rfl, hb9⟩
                  have HF9 := Lib.hid hb9
                  clear hb9 HOF
                  go_wp2_with fail
                  go_ret2
                  rw [HDA.out]
                  exact ⟨rfl, _, HE8.out.below HF9.out, HTT.out.trans (Touch.of_below HF9.out), HBB.out⟩
          · have hc := HS0.out
            go_simp
            refine hK.out _ _ HT0.out (fun hHeld => ?_)
            clear hK K
            try simp only [Act.put, List.setIfInBounds_toArray, List.set_cons_zero, List.set_cons_succ]
            clear hc
            refine wpAnyH_take (i := 7) (oi := ⟨some 28, _, _, _, _, _⟩) (v := ?_) rfl (by kernel_rfl) (by decide +kernel) (by decide +kernel) (fun _ _ _ h => h) (Or.inl ⟨by rfl, ?_⟩) (by assumption) ?_
            rotate_left 1
            · (intro w' hSw; go_simp; try with_reducible rfl)
            try simp only [Act.put, List.setIfInBounds_toArray, List.set_cons_zero, List.set_cons_succ]
            refine wpAnyH_ready (rs := [1]) (by decide +kernel) (by simp) ?_
            refine AllReadyH.cons rfl (fun K hK => ?_) AllReadyH.nil
            · have hln := LN.out w7.drew
              go_simp
              refine hK.out _ _ HT1.out (fun hHeld => ?_)
              clear hK K
              try simp only [Act.put, List.setIfInBounds_toArray, List.set_cons_zero, List.set_cons_succ]
              clear hln
              refine wpAnyH_ready (rs := [8]) (by decide +kernel) (by simp) ?_
              refine AllReadyH.cons rfl (fun K hK => ?_) AllReadyH.nil
              · rw [if_pos (by kernel_rfl)]
                refine wp_append_at (o := ⟨some 29, _, _, _, _, _⟩) (.tmp 22) (.tmp 28) 27 rfl _ _ rfl rfl _ _ HA1.out ?_
                refine hK.out _ _ HT2.out (fun hHeld => ?_)
                clear hK K
                try simp only [Act.put, List.setIfInBounds_toArray, List.set_cons_zero, List.set_cons_succ]
                refine wpAnyH_ready (rs := [16]) (by decide +kernel) (by simp) ?_
                refine AllReadyH.cons rfl (fun K hK => ?_) AllReadyH.nil
                · rw [if_pos (by kernel_rfl)]
                  refine wp_append_at (o := ⟨some 37, _, _, _, _, _⟩) (.tmp 29) (.tmp 36) 27 rfl _ _ rfl rfl _ _ HA2.out ?_
                  refine hK.out _ _ HT3.out (fun hHeld => ?_)
                  clear hK K
                  try simp only [Act.put, List.setIfInBounds_toArray, List.set_cons_zero, List.set_cons_succ]
                  refine wpAnyH_take (i := 17) (oi := ⟨some 38, _, _, _, _, _⟩) (v := ?_) rfl (by kernel_rfl) (by decide +kernel) (by decide +kernel) (fun _ _ _ h => h) (Or.inl ⟨by rfl, ?_⟩) (by assumption) ?_
                  rotate_left 1
                  · (intro w' hSw; go_simp; try with_reducible rfl)
                  try simp only [Act.put, List.setIfInBounds_toArray, List.set_cons_zero, List.set_cons_succ]
                  refine wpAnyH_take (i := 18) (oi := ⟨some 39, _, _, _, _, _⟩) (v := ?_) rfl (by kernel_rfl) (by decide +kernel) (by decide +kernel) (fun _ _ _ h => h) (Or.inl ⟨by rfl, ?_⟩) (by assumption) ?_
                  rotate_left 1
                  · (intro w' hSw; go_simp; try with_reducible rfl)
                  try simp only [Act.put, List.setIfInBounds_toArray, List.set_cons_zero, List.set_cons_succ]
                  refine wpAnyH_ready (rs := [19]) (by decide +kernel) (by simp) ?_
                  refine AllReadyH.cons rfl (fun K hK => ?_) AllReadyH.nil
                  have hc := HC3.out.1
                  have hf := HC3.out.2
                  go_simp
                  refine hK.out _ _ HT4.out (fun hHeld => ?_)
                  clear hK K hc hf hHeld
                  refine wpAnyH_done (by decide +kernel) ?_ _
                  refine NoPanic.normal ?_
                  go_wp2_with (first
                    | (with_reducible refine wpList_load_row (o := ⟨some 41, _, _, _, _, _⟩) rfl 35 _ rfl T rfl 35 QR (0, 0) _ HQ4.out Try.underlying35 rfl SWQ.out ?_))
                  refine HOF.out.mono ?_
                  rintro e w9 ⟨rfl, hb9⟩
                  have HF9 := Lib.hid hb9
                  clear hb9 HOF
                  go_wp2_with fail
                  go_ret2
                  rw [HDA.out]
                  exact ⟨rfl, _, HE8.out.below HF9.out, HTT.out.trans (Touch.of_below HF9.out), HBB.out⟩
      · rw [decide_eq_false hpq] at HEP
        have HNX := Lib.hid (show q ∉ L.take (i + 1) by
          rw [List.take_add_one, HXI.out]
          intro hm
          rcases List.mem_append.1 hm with hm | hm
          · exact HNQ.out hm
          · simp at hm; exact hpq hm.symm)
        have heq := HEP.out
        clear hpq HEP
        go_wp2_with (first
          | (with_reducible refine wpList_load_row (o := ⟨some 18, _, _, _, _, _⟩) rfl 35 _ rfl wr.heap.size rfl 35 AR (0, 0) _ H7.out Try.underlying35 rfl SWR.out ?_)
          | (with_reducible refine wpList_load_row (o := ⟨some 19, _, _, _, _, _⟩) rfl 35 _ rfl T rfl 35 QR (0, 0) _ HQ7.out Try.underlying35 rfl SWQ.out ?_))
        go_roundw
        case rel => exact ⟨i + 1, by have := HLT.out; omega, by go_num, HNX.out, HB7.out⟩
        case measure => simp [intOf]; have := HLT.out; omega
    · obtain rfl : i = n := by omega
      have HC0 := Lib.hid (show L.count q = 0 by rw [List.take_of_length_le (Nat.le_of_eq HNN.out)] at hnq; exact List.count_eq_zero.2 hnq)
      have HER := Lib.hid (show L.erase q = L from List.erase_of_not_mem (by rw [List.take_of_length_le (Nat.le_of_eq HNN.out)] at hnq; exact hnq))
      have HB := Lib.hid hB
      clear hi hlt hB hnq
      go_wp2_with fail
      go_ret2
      rw [HC0.out, HER.out]
      exact ⟨rfl, _, HRQ.out.below HB.out, Touch.of_below (HBW.out.trans (HB.out.mono HBW.out.size)), .inl rfl⟩
end Go.Proofs.Ytocdjaenhllemaa
