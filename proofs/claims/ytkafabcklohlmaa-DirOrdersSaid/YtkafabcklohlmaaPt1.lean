/-
  Rs: Readers whose blocks are among the first N: Str and ptr.Get, of the program and of the document's answer. (Written by tools/XRs.make.py.)
  Rb: A pointer's bytes in the document's answer.
  Pl: What layer 8's laws share: the chapter's examples, how a pointer and a list of pointers come in.
  Rp: The cells of a list of pointers, one behind the other.
  Sm: Slices of pointers, compared by the reference.
  Ap: Slices of pointers cut and appended.
  St: Slices of strings: how one lies in memory, is indexed, compared; the order of strings.
-/
import Derived.Test.YtkafabcklohlmaaPt0
import Derived.StillTailTactics
import Derived.Lib.Strings
import Derived.Sort.Walk0
namespace Go.Proofs.Ytkafabcklohlmaa
set_option maxRecDepth 4000
set_option linter.unusedVariables false
open Go.RowKit

/-- The second address lies in the first one's block. -/
def SameB (a a' : Option Addr) : Prop := ∀ x', a' = some x' → ∃ x, a = some x ∧ x.block = x'.block
theorem SameB.refl (a : Option Addr) : SameB a a := fun x h => ⟨x, h, rfl⟩
theorem SameB.trans {a b c : Option Addr} (h : SameB a b) (k : SameB b c) : SameB a c := fun x e => by
  obtain ⟨y, e1, e2⟩ := k x e
  obtain ⟨z, e3, e4⟩ := h y e1
  exact ⟨z, e3, e4.trans e2⟩
theorem add_block (x : Addr) (k : Nat) : (x.add k).block = x.block := by unfold Addr.add; split <;> rfl
theorem slice_cut_s (W : World) (a : Option Addr) (len cap lo hi : Nat) (l : List Int) (hB : BS W (.slice a len cap) l) (hl : l.length = len) (h1 : lo ≤ hi) (h2 : hi ≤ len) (h3 : len ≤ cap) :
    ∃ a2 : Option Addr, (∀ W', (Instr.slice 64 (.slice a len cap) (some (.int .i64 (lo : Int))) (some (.int .i64 (hi : Int))) none).run Try.prog W' = .ok (.slice a2 (hi - lo) (cap - lo)) W') ∧
      (hi = len → ∀ W', (Instr.slice 64 (.slice a len cap) (some (.int .i64 (lo : Int))) none none).run Try.prog W' = .ok (.slice a2 (hi - lo) (cap - lo)) W') ∧
      (lo = 0 → ∀ W', (Instr.slice 64 (.slice a len cap) none (some (.int .i64 (hi : Int))) none).run Try.prog W' = .ok (.slice a2 (hi - lo) (cap - lo)) W') ∧
      BS W (.slice a2 (hi - lo) (cap - lo)) ((l.drop lo).take (hi - lo)) ∧ SameB a a2 := by
  obtain ⟨a2, e1, e2, e3, hb⟩ := slice_cut W a len cap lo hi l hB hl h1 h2 h3
  refine ⟨a2, e1, e2, e3, hb, ?_⟩
  obtain ⟨i0, hi0, hs⟩ := Option.map_eq_some_iff.1 yone
  have e4 := e1 W
  have b1 := ybound_ok hi cap .sliceAcap (by omega) W
  have b2 := ybound_ok lo hi .sliceB h1 W
  simp [Instr.slice, run_underlying Try.underlying64, Instr.sliceBounds, sizeOf, typeInfo, hi0, hs, b1, b2] at e4
  intro x' e
  rw [← e4] at e
  split at e
  · exact ⟨x', e, rfl⟩
  · cases a with
    | none => cases e
    | some ad =>
      simp only [Option.map_some, Option.some.injEq] at e
      exact ⟨ad, rfl, by rw [← e, add_block]⟩
theorem rt_of {N : Nat} {w : World} {t R lb cb : Nat} {ab : Option Addr} {l : List Int} (h : RR w t R ab lb cb l) (hR : R < N) (hN : N ≤ w.heap.size) (hd : ∀ x, ab = some x → l ≠ [] → x.block < N) : RT N w t R l := by
  refine ⟨hN, ab, lb, cb, (trunc_heap w hR).trans h.cell, ?_, h.len, h.cap, h.big⟩
  obtain ⟨a', cap', hv, hy, hn, hc⟩ := h.bytes
  refine ⟨a', cap', hv, hy, hn, ?_⟩
  rcases hc with h0 | ⟨b, off, ha, hc⟩
  · exact .inl h0
  · by_cases hl : l = []
    · exact .inl hl
    · have hb : b < N := hd ⟨b, off, none⟩ (by injection hv with e1 _ _; rw [e1, ha]) hl
      refine .inr ⟨b, off, ha, fun i hi => ?_⟩
      have q0 := hc i hi
      simp only [World.cell?] at q0 ⊢
      rw [trunc_heap w hb]
      exact q0
theorem rt_block {N : Nat} {w : World} {t R lb cb : Nat} {ab : Option Addr} {l : List Int} (h : RT N w t R l) (k : RR w t R ab lb cb l) : ∀ x, ab = some x → l ≠ [] → x.block < N := by
  have hR := h.lt
  obtain ⟨hN, ab', lb', cb', h⟩ := h
  intro x e hl
  have c1 := h.cell
  rw [trunc_heap w hR, k.cell] at c1
  simp only [Option.some.injEq, Obj.cells.injEq] at c1
  have c2 := congrArg (fun x : Array Value => x[0]?) c1.1
  simp at c2
  obtain ⟨e1, e2, e3⟩ := c2
  obtain ⟨a', cap', hv, hy, hn, hc⟩ := h.bytes
  rcases hc with h0 | ⟨b', off', ha, hc⟩
  · exact absurd h0 hl
  · injection hv with f1 _ _
    rw [← e1, e, ha] at f1
    injection f1 with f1
    subst f1
    have := block_lt_of_cell (hc 0 (List.length_pos_iff.2 hl))
    rwa [trunc_size hN] at this
theorem rt_below {N : Nat} {w w' : World} {t R : Nat} {l : List Int} (h : RT N w t R l) (b : Below w.heap.size w w') : RT N w' t R l :=
  h.keep (Nat.le_trans h.1 b.size) (fun k hk => b.block k (Nat.lt_of_lt_of_le hk h.1))
set_option maxRecDepth 100000 in
set_option maxHeartbeats 3200000 in
theorem pnext_same (R lb cb : Nat) (ab : Option Addr) (l : List Int) (n : Int) (w : World) (h : RR w 114 R ab lb cb l) (hn : n ≤ 9223372036854775807) :
    Calls Try.prog 79 #[.pointer (some ⟨R, 0, none⟩), .int .i64 n] w fun e w' => (∃ v, e = .returned (.tuple #[v, .int .i64 (rawA n l).2.1]) ∧ BS w' v (rawA n l).1) ∧ (∃ ab' lb' cb', SameB ab ab' ∧ RR w' 114 R ab' lb' cb' (rawA n l).2.2) ∧ Only R w w' := by
  have H := Lib.hid h
  have c0 := h.at
  have hl := h.len
  have hbig := h.big
  have hcap := h.cap
  by_cases h0 : n < 0
  · rw [show rawA n l = ([], 2, l) by unfold rawA; rw [if_pos h0]]
    clear h hl hbig hcap
    go_enter Try.func79, Try.ntmps79
    go_wp2_with fail
    go_ret2
    exact ⟨⟨_, rfl, bs_nil _⟩, ⟨_, _, _, SameB.refl _, H.out⟩, Only.refl _ _⟩
  · obtain ⟨m, rfl⟩ : ∃ m : Nat, n = (m : Int) := ⟨n.toNat, by omega⟩
    have m0 : (0 : Int) ≤ (m : Int) := by omega
    have lI : (lb : Int) ≤ 140737488351232 := by omega
    by_cases h1 : lb < m
    · rw [show rawA (m : Int) l = ([], 3, l) by unfold rawA; rw [if_neg (by omega), if_pos (by omega)]]
      have h1b : decide (lb < m) = true := by simp [h1]
      have h1c : (lb : Int) < (m : Int) := by omega
      clear h hl hbig hcap h0 h1
      go_enter Try.func79, Try.ntmps79
      go_wp2_with fail
      go_ret2
      exact ⟨⟨_, rfl, bs_nil _⟩, ⟨_, _, _, SameB.refl _, H.out⟩, Only.refl _ _⟩
    · rw [show rawA (m : Int) l = (l.take m, 0, l.drop m) by unfold rawA; rw [if_neg (by omega), if_neg (by omega)]; rfl]
      have h1b : decide (lb < m) = false := by simp; omega
      obtain ⟨a1, _, _, e1, B1⟩ := slice_cut w ab lb cb 0 m l h.bytes hl (Nat.zero_le _) (by omega) hcap
      obtain ⟨a2, _, e2, _, B2, S2⟩ := slice_cut_s w ab lb cb m lb l h.bytes hl (by omega) (Nat.le_refl _) hcap
      have e1 := e1 rfl
      have e2 := e2 rfl
      simp only [Nat.sub_zero] at e1 B1
      have f0 := frozen_of_row w R 0 _ _ h.cell
      have hO : Only R w (w.setCell ⟨R, 0, none⟩ (.slice a2 (lb - m) (cb - m))) := (Only.refl _ _).setCell _ _
      have HO := Lib.hid hO
      have HB1 := Lib.hid (show BS (w.setCell ⟨R, 0, none⟩ (.slice a2 (lb - m) (cb - m))) (.slice a1 m cb) (l.take m) from by have q := B1.only h.cell hO; simpa using q)
      have HRR := Lib.hid (show RR (w.setCell ⟨R, 0, none⟩ (.slice a2 (lb - m) (cb - m))) 114 R a2 (lb - m) (cb - m) (l.drop m) from
        ⟨heap_setCell_same _ _ _ _ _ _ h.cell, by have q := B2.only h.cell hO; rw [List.take_of_length_le (by rw [List.length_drop]; omega)] at q; exact q, by rw [List.length_drop]; omega, by omega, by omega⟩)
      have HS2 := Lib.hid S2
      clear h hl hbig hcap h0 h1 B1 B2 hO S2
      go_enter Try.func79, Try.ntmps79
      go_wp2_with fail
      go_ret2
      exact ⟨⟨_, rfl, HB1.out⟩, by first | exact ⟨_, _, _, HS2.out, HRR.out⟩ | exact ⟨_, HS2.out, _, _, HRR.out⟩, HO.out⟩
set_option maxRecDepth 100000 in
set_option maxHeartbeats 3200000 in
theorem pnum_same (R lb cb : Nat) (ab : Option Addr) (l : List Int) (n : Int) (w : World) (h : RR w 114 R ab lb cb l) (hn : n ≤ 9223372036854775807) :
    Calls Try.prog 69 #[.pointer (some ⟨R, 0, none⟩), .int .i64 n] w fun e w' => e = .returned (.tuple #[.int .u64 (numA n l).1, .int .i64 (numA n l).2.1]) ∧ (∃ ab' lb' cb', SameB ab ab' ∧ RR w' 114 R ab' lb' cb' (numA n l).2.2) ∧ Only R w w' := by
  have H := Lib.hid h
  by_cases h1 : 8 < n
  · rw [show numA n l = (0, 2, l) by unfold numA; rw [if_pos (.inr h1)]]
    clear h
    go_enter Try.func69, Try.ntmps69
    go_wp2_with fail
    go_ret2
    exact ⟨rfl, ⟨_, _, _, SameB.refl _, H.out⟩, Only.refl _ _⟩
  · have HR := Lib.hid (pnext_same R lb cb ab l n w h hn)
    have hs := rawA_short n l (by omega)
    have h11 : n ≤ 8 := by omega
    have hE : ∃ er, (rawA n l).2.1 = er ∧ (er ≠ 0 → (rawA n l).2.1 = er ∧ numA n l = (0, er, (rawA n l).2.2)) ∧ (er = 0 → numA n l = (num (rawA n l).1, 0, (rawA n l).2.2)) := by
      refine ⟨_, rfl, fun hne => ⟨rfl, ?_⟩, fun he => ?_⟩
      · by_cases h0 : n < 0
        · unfold numA rawA; rw [if_pos (.inl h0), if_pos h0]
        · unfold numA
          rw [if_neg (by omega)]
          unfold rawA at hne ⊢
          rw [if_neg h0] at hne ⊢
          split
          · rfl
          · rename_i hc; rw [if_neg hc] at hne; exact absurd rfl hne
      · by_cases h0 : n < 0
        · unfold rawA at he; rw [if_pos h0] at he; simp at he
        · unfold numA
          rw [if_neg (by omega), he]
    obtain ⟨er, her, hA, hB⟩ := hE
    have HS := Lib.hid hs
    generalize rawA n l = Q at *
    obtain ⟨q1, q2, q3⟩ := Q
    dsimp only at her
    subst her
    by_cases h0 : q2 = 0
    · subst h0
      rw [hB rfl]
      clear h h1 hs hA hB
      go_enter Try.func69, Try.ntmps69
      go_wp2_with fail
      refine HR.out.mono ?_
      rintro e w1 ⟨⟨v, rfl, hv⟩, hr, hO⟩
      have HN := Lib.hid (get_ok w1 v q1 hv HS.out)
      have HRR := Lib.hid hr
      have HO := Lib.hid hO
      clear hv hr hO HR
      go_wp2_with fail
      refine HN.out.mono ?_
      rintro e w2 ⟨rfl, rfl⟩
      go_wp2_with fail
      go_ret2
      exact ⟨rfl, HRR.out, HO.out⟩
    · rw [(hA h0).2]
      have hnb : (q2 != 0) = true := by simp [h0]
      clear h h1 hs hA hB
      go_enter Try.func69, Try.ntmps69
      go_wp2_with fail
      refine HR.out.mono ?_
      rintro e w1 ⟨⟨v, rfl, hv⟩, hr, hO⟩
      have HRR := Lib.hid hr
      have HO := Lib.hid hO
      clear hv hr hO HR
      go_wp2_with fail
      go_ret2
      exact ⟨rfl, HRR.out, HO.out⟩
set_option maxRecDepth 100000 in
set_option maxHeartbeats 3200000 in
theorem pstr_tt (R lb cb : Nat) (ab : Option Addr) (l : List Int) (N : Nat) (w : World) (hT : RT N w 114 R l) (h : RR w 114 R ab lb cb l) :
    Calls Try.prog 70 #[.pointer (some ⟨R, 0, none⟩)] w fun e w' => e = .returned (.tuple #[.string (strA l).1, .int .i64 (strA l).2.1]) ∧ RT N w' 114 R (strA l).2.2 ∧ Chg R w w' := by
  have HT0 := Lib.hid hT
  have HNW := Lib.hid hT.1
  have HBK := Lib.hid (rt_block hT h)
  have H := Lib.hid h
  have c0 := h.at
  have hz := zero_reader
  have hA : RR (w.alloc (.cells #[.slice ab lb cb] 114)) 114 w.heap.size ab lb cb l :=
    ⟨heap_alloc_new w _, h.bytes.kept ((Below.refl w.heap.size w).alloc (Nat.le_refl _) _), h.len, h.cap, h.big⟩
  have HN := Lib.hid (pnum_same w.heap.size lb cb ab l 1 _ hA (by omega))
  rw [numA_one] at HN
  have HB1 := Lib.hid ((Below.refl w.heap.size w).alloc (Nat.le_refl _) (.cells #[.slice ab lb cb] 114))
  have HY := Lib.hid h.bytes.byt
  have HR := Lib.hid (Array.getElem?_eq_some_iff.1 h.cell).1
  cases l with
  | nil =>
    rw [show strA [] = (⟨#[]⟩, 3, []) from rfl]
    rw [if_pos rfl] at HN
    clear h hA hT
    go_enter Try.func70, Try.ntmps70
    go_wp2_with fail
    refine HN.out.mono ?_
    rintro e w2 ⟨rfl, _, hO⟩
    have HB2 := Lib.hid (HB1.out.trans (hO.bel _ (Nat.le_refl _)))
    clear hO HN
    go_wp2_with fail
    go_ret2
    exact ⟨rfl, rt_below HT0.out (HB2.out), Chg.of_below HB2.out⟩
  | cons c t =>
    have hcb := h.bytes.byt c (by simp)
    obtain ⟨m, rfl⟩ : ∃ m : Nat, c = (m : Int) := ⟨c.toNat, by omega⟩
    have mI : (m : Int) ≤ 255 := hcb.2
    have m0 : (0 : Int) ≤ (m : Int) := hcb.1
    have HT := Lib.hid (show rawA (m : Int) t = if t.length < m then ([], 3, t) else (t.take m, 0, t.drop m) by
      unfold rawA; rw [if_neg (by omega)]
      by_cases hq : t.length < m
      · rw [if_pos (by omega), if_pos hq]
      · rw [if_neg (by omega), if_neg hq]; rfl)
    have HS := Lib.hid (show strA ((m : Int) :: t) = if t.length < m then (⟨#[]⟩, 3, (m : Int) :: t) else (strOfNums (t.take m), 0, t.drop m) by
      unfold strA
      by_cases hq : t.length < m
      · rw [if_pos (.inr (by simp; omega)), if_pos hq]
      · rw [if_neg (by simp; omega), if_neg hq]
        simp [Nat.add_comm 1 m])
    rw [if_neg (by simp)] at HN
    simp only [List.getD_cons_zero, List.drop_succ_cons, List.drop_zero] at HN
    clear h hA hcb hT
    by_cases hq : t.length < m
    · rw [HS.out, if_pos hq]
      rw [if_pos hq] at HT
      clear hq
      go_enter Try.func70, Try.ntmps70
      go_wp2_with fail
      refine HN.out.mono ?_
      rintro e w2 ⟨rfl, ⟨a2, l2, c2, hS2, hR2⟩, hO2⟩
      have HX := Lib.hid (pnext_same w.heap.size l2 c2 a2 t (m : Int) w2 hR2 (by omega))
      rw [HT.out] at HX
      have HB2 := Lib.hid (HB1.out.trans (hO2.bel _ (Nat.le_refl _)))
      clear hR2 hO2 HN HT HS
      go_wp2_with fail
      refine HX.out.mono ?_
      rintro e w3 ⟨⟨v, rfl, hv⟩, _, hO⟩
      have HB3 := Lib.hid (HB2.out.trans (hO.bel _ (Nat.le_refl _)))
      clear hv hO HX
      go_wp2_with fail
      go_ret2
      exact ⟨rfl, rt_below HT0.out (HB3.out), Chg.of_below HB3.out⟩
    · rw [HS.out, if_neg hq]
      rw [if_neg hq] at HT
      have HLT := Lib.hid (show (t.take m).length = m by rw [List.length_take]; omega)
      clear hq
      go_enter Try.func70, Try.ntmps70
      go_wp2_with fail
      refine HN.out.mono ?_
      rintro e w2 ⟨rfl, ⟨a2, l2, c2, hS2, hR2⟩, hO2⟩
      have HX := Lib.hid (pnext_same w.heap.size l2 c2 a2 t (m : Int) w2 hR2 (by omega))
      rw [HT.out] at HX
      have HB2 := Lib.hid (HB1.out.trans (hO2.bel _ (Nat.le_refl _)))
      clear hR2 hO2 HN HT HS
      go_wp2_with fail
      refine HX.out.mono ?_
      rintro e w3 ⟨⟨v, rfl, hv⟩, ⟨a3, l3, c3, hS3, hR3⟩, hO⟩
      have hb3 := HB2.out.trans (hO.bel _ (Nat.le_refl _))
      have d3 := hR3.at
      have hH3 := H.out.below hb3
      have e3 := hH3.at
      have f3 := frozen_of_row w3 R 0 _ _ hH3.cell
      have hO4 := (Only.refl R w3).setCell 0 (.slice a3 l3 c3)
      have hvv : BS (w3.setCell ⟨R, 0, none⟩ (.slice a3 l3 c3)) v (t.take m) := hv.only hH3.cell hO4
      obtain ⟨av, cv, rfl⟩ : ∃ av cv, v = .slice av m cv := by
        obtain ⟨av, cv, hve, _⟩ := id hvv
        rw [HLT.out] at hve
        exact ⟨av, cv, hve⟩
      have hcw := conv_BS hvv
      have HRR := Lib.hid (show RR (w3.setCell ⟨R, 0, none⟩ (.slice a3 l3 c3)) 114 R a3 l3 c3 (t.drop m) from
        ⟨heap_setCell_same _ _ _ _ _ _ hH3.cell, hR3.bytes.only hH3.cell hO4, hR3.len, hR3.cap, hR3.big⟩)
      have HRT := Lib.hid (rt_of HRR.out HT0.out.lt (Nat.le_trans HNW.out (Nat.le_trans hb3.size (Nat.le_of_eq (by simp)))) (fun x e _ => by
        obtain ⟨y, e1, f1⟩ := hS3 x e
        obtain ⟨z, e2, f2⟩ := hS2 y e1
        rw [← f1, ← f2]
        exact HBK.out z e2 (by simp)))
      have HC := Lib.hid ((Chg.of_below (R := R) hb3).trans (Chg.of_only hO4))
      clear hR3 hv hb3 hH3 hO4 hvv hO HX
      go_wp2_with fail
      go_ret2
      exact ⟨rfl, HRT.out, HC.out⟩
set_option maxRecDepth 100000 in
set_option maxHeartbeats 3200000 in
theorem rstr_tt (R lb cb : Nat) (ab : Option Addr) (l : List Int) (N : Nat) (w : World) (hT : RT N w 79 R l) (h : RR w 79 R ab lb cb l) :
    Calls Try.prog 47 #[.pointer (some ⟨R, 0, none⟩)] w fun e w' => e = .returned (.tuple #[.string (strA l).1, .int .i64 (strA l).2.1]) ∧ RT N w' 79 R (strA l).2.2 ∧ Only R w w' := by
  have HT0 := Lib.hid hT
  have HNW := Lib.hid hT.1
  have HBK := Lib.hid (rt_block hT h)
  have H := Lib.hid h
  have c0 := h.at
  have hl := h.len
  have hbig := h.big
  have hcap := h.cap
  have lI : (lb : Int) ≤ 140737488351232 := by omega
  by_cases h0 : lb = 0
  · have hnil : l = [] := List.eq_nil_of_length_eq_zero (by omega)
    rw [show strA l = (⟨#[]⟩, 3, l) by unfold strA; rw [if_pos (.inl hnil)]]
    subst h0
    clear h hT hl hbig hcap hnil lI
    go_enter Try.func47, Try.ntmps47
    go_wp2_with fail
    go_quiet (fail)
    go_wp2_with fail
    go_ret2
    exact ⟨rfl, rt_below HT0.out (ybelow_drewN (Below.refl _ w) _), only_drewN R w _⟩
  · obtain ⟨b, off, rfl, hc⟩ : ∃ b off, ab = some ⟨b, off, none⟩ ∧ w.cell? ⟨b, off, none⟩ = some (.int .u8 (l.getD 0 0)) := by
      obtain ⟨a', cap', hv, _, _, hcc⟩ := h.bytes
      injection hv with e1 e2 e3
      rcases hcc with h1 | ⟨b, off, ha, hcc⟩
      · rw [h1] at hl; simp at hl; omega
      · exact ⟨b, off, e1.trans ha, hcc 0 (by omega)⟩
    have hy : 0 ≤ l.getD 0 0 ∧ l.getD 0 0 ≤ 255 := by
      have hne : l ≠ [] := fun e => h0 (by rw [← hl, e]; rfl)
      have e : l.getD 0 0 = l[0]'(by omega) := by simp [List.getD, show 0 < l.length by omega]
      rw [e]
      exact h.bytes.byt _ (List.getElem_mem _)
    obtain ⟨m, hm⟩ : ∃ m : Nat, l.getD 0 0 = (m : Int) := ⟨(l.getD 0 0).toNat, by omega⟩
    rw [hm] at hc hy
    have mI : (m : Int) ≤ 255 := hy.2
    have m0 : (0 : Int) ≤ (m : Int) := by omega
    have lb0 : ((lb : Int) == 0) = false := by simp; omega
    have lb1 : 0 < lb := by omega
    have hne : l ≠ [] := fun e => h0 (by rw [← hl, e]; rfl)
    by_cases hsh : lb < 1 + m
    · rw [show strA l = (⟨#[]⟩, 3, l) by unfold strA; rw [if_pos (.inr (by rw [hm]; omega))]]
      have hshb : decide ((lb : Int) < 1 + (m : Int)) = true := by simp; omega
      have hshc : (lb : Int) < 1 + (m : Int) := by omega
      clear h hT hl hbig hcap hm hy hne h0 hsh
      go_enter Try.func47, Try.ntmps47
      go_wp2_with fail
      go_quiet (fail)
      go_wp2_with fail
      go_ret2
      exact ⟨rfl, rt_below HT0.out (ybelow_drewN (Below.refl _ w) _), only_drewN R w _⟩
    · rw [show strA l = (strOfNums ((l.drop 1).take m), 0, l.drop (1 + m)) by unfold strA; rw [if_neg (by rw [hm]; intro q; rcases q with q | q; exact hne q; omega), hm]; rfl]
      have hshb : decide ((lb : Int) < 1 + (m : Int)) = false := by simp; omega
      obtain ⟨a1, e1, _, _, B1⟩ := slice_cut w (some ⟨b, off, none⟩) lb cb 1 (1 + m) l h.bytes hl (by omega) (by omega) hcap
      obtain ⟨a2, _, e2, _, B2, S2⟩ := slice_cut_s w (some ⟨b, off, none⟩) lb cb (1 + m) lb l h.bytes hl (by omega) (Nat.le_refl _) hcap
      have e2 := e2 rfl
      rw [show 1 + m - 1 = m by omega] at e1 B1
      rw [show ((1 + m : Nat) : Int) = 1 + (m : Int) by omega] at e1 e2
      rw [show ((1 : Nat) : Int) = 1 from rfl] at e1
      have HB1 := Lib.hid B1
      have HB2 := Lib.hid B2
      have HS2 := Lib.hid S2
      have HNE := Lib.hid hne
      have HLD := Lib.hid (show (l.drop (1 + m)).take (lb - (1 + m)) = l.drop (1 + m) ∧ (l.drop (1 + m)).length = lb - (1 + m) from ⟨List.take_of_length_le (by rw [List.length_drop]; omega), by rw [List.length_drop]; omega⟩)
      have HCP := Lib.hid (show lb - (1 + m) ≤ cb - (1 + m) ∧ lb - (1 + m) ≤ 140737488351232 by omega)
      clear h hT hl hbig hcap hm hy hne h0 hsh B1 B2 S2
      go_enter Try.func47, Try.ntmps47
      go_wp2_with fail
      go_quiet (fail)
      generalize hW2 : w.drewN _ = W2
      have HO2 := Lib.hid (show Only R w W2 by rw [← hW2]; exact only_drewN R w _)
      have hb2 : Below w.heap.size w W2 := by rw [← hW2]; exact ybelow_drewN (Below.refl _ w) _
      have hR2 := H.out.below hb2
      have c2 := hR2.at
      have d2 : W2.cell? ⟨b, off, none⟩ = some (.int .u8 (m : Int)) := by rw [← hW2]; exact hc
      have f2 := frozen_of_row W2 R 0 _ _ hR2.cell
      have hcv := conv_BS (HB1.out.kept hb2)
      have hO := (Only.refl R W2).setCell 0 (.slice a2 (lb - (1 + m)) (cb - (1 + m)))
      have HO3 := Lib.hid (show Only R w (W2.setCell ⟨R, 0, none⟩ (.slice a2 (lb - (1 + m)) (cb - (1 + m)))) from HO2.out.setCell 0 _)
      have HRR := Lib.hid (show RR (W2.setCell ⟨R, 0, none⟩ (.slice a2 (lb - (1 + m)) (cb - (1 + m)))) 79 R a2 (lb - (1 + m)) (cb - (1 + m)) (l.drop (1 + m)) from
        ⟨heap_setCell_same _ _ _ _ _ _ hR2.cell, by have q := (HB2.out.kept hb2).only hR2.cell hO; rw [HLD.out.1] at q; exact q, HLD.out.2, HCP.out.1, HCP.out.2⟩)
      have HRT := Lib.hid (rt_of HRR.out HT0.out.lt (Nat.le_trans HNW.out (Nat.le_trans hb2.size (Nat.le_of_eq (by simp)))) (fun x e _ => by
        obtain ⟨y, e1, f1⟩ := HS2.out x e
        rw [← f1]
        exact HBK.out y e1 HNE.out))
      clear hW2 hb2 hR2 hO c0 hc
      go_wp2_with fail
      go_ret2
      exact ⟨by rw [List.drop_one]; rfl, HRT.out, HO3.out⟩
set_option maxRecDepth 100000 in
set_option maxHeartbeats 3200000 in
theorem pget_short_t (R lb cb : Nat) (ab : Option Addr) (l : List Int) (N : Nat) (w : World) (hT : RT N w 114 R l) (h : RR w 114 R ab lb cb l) (hs : l.length < 44) :
    Calls Try.prog 71 #[.pointer (some ⟨R, 0, none⟩)] w fun e w' => e = .returned (.tuple #[.agg (ptrRow zeroPtr).toArray, .int .i64 3]) ∧ RT N w' 114 R l ∧ Chg R w w' := by
  have HT0 := Lib.hid hT
  have HNW := Lib.hid hT.1
  have HBK := Lib.hid (rt_block hT h)
  have hb := (Below.refl w.heap.size w).alloc (Nat.le_refl _) (.cells (ptrRow zeroPtr).toArray 36)
  have hA := heap_alloc_new w (.cells (ptrRow zeroPtr).toArray 36)
  have h1 := h.below hb
  have HN := Lib.hid (pleft_any R lb cb ab l _ h1)
  have H0 := Lib.hid h
  have hz := zero_ptr
  have hbn := build_none
  have SE := Lib.hid (size_ptrA zeroPtr)
  have SO := Lib.hid (ptrRow_one zeroPtr)
  have HB := Lib.hid hb
  have HA := Lib.hid hA
  have hlt : decide ((l.length : Int) < 44) = true := by simp; omega
  clear h hT hb hA h1 hs
  generalize (ptrRow zeroPtr).toArray = ZR at *
  go_enter Try.func71, Try.ntmps71
  go_wp2_with fail
  refine HN.out.mono ?_
  rintro e w2 ⟨rfl, rfl⟩
  go_wp2_with (first
    | (with_reducible refine wpList_store_row (o := ⟨none, .store _ (.tmp 2) _, _, _, _, _⟩) rfl 36 _ _ rfl w.heap.size ZR rfl rfl 36 ZR HA.out SE.out rfl SO.out ?_))
  have h5 : Below w.heap.size w ((w.alloc (.cells ZR 36)).setRow w.heap.size ZR) := ybelow_row HB.out (Nat.le_refl _) _
  refine bodyPost_ret (v := .tuple #[.agg ZR, .int .i64 3]) (results_cell_two Try.results71 _ _ w.heap.size 36 ZR (0, 0) _ rfl (setRow_heap _ w.heap.size _ ZR _ _ HA.out) Try.underlying36 rfl SE.out _ (by simp)) rfl ⟨rfl, rt_below HT0.out (h5), Chg.of_below h5⟩
set_option maxRecDepth 100000 in
set_option maxHeartbeats 3200000 in
theorem pget_ok_t (R lb cb : Nat) (ab : Option Addr) (l : List Int) (N : Nat) (w : World) (hT : RT N w 114 R l) (h : RR w 114 R ab lb cb l) (hs : 44 ≤ l.length) :
    Calls Try.prog 71 #[.pointer (some ⟨R, 0, none⟩)] w fun e w' => e = .returned (.tuple #[.agg (ptrRow (ptrOf l)).toArray, .int .i64 0]) ∧ RT N w' 114 R (l.drop 44) ∧ Chg R w w' := by
  have HT0 := Lib.hid hT
  have HNW := Lib.hid hT.1
  have HBK := Lib.hid (rt_block hT h)
  have hb := (Below.refl w.heap.size w).alloc (Nat.le_refl _) (.cells (ptrRow zeroPtr).toArray 36)
  have hA := heap_alloc_new w (.cells (ptrRow zeroPtr).toArray 36)
  have hsz : (w.alloc (.cells (ptrRow zeroPtr).toArray 36)).heap.size = w.heap.size + 1 := by simp
  have h1 := h.below hb
  have hr1 := hT.keep (w' := w.alloc (.cells (ptrRow zeroPtr).toArray 36)) (by have := hT.1; omega) (fun k hk => hb.block k (Nat.lt_of_lt_of_le hk hT.1))
  have hby := h.bytes.byt
  obtain ⟨p4, p8, p32⟩ := ptrOf_parts l hs hby
  have HN := Lib.hid (pleft_any R lb cb ab l _ h1)
  have HN1 := Lib.hid (pnum_t _ R l 4 _ hr1 (by omega))
  rw [show numA 4 l = (num (l.take 4), 0, l.drop 4) from numA_in8 4 l (by omega) (by omega), p4] at HN1
  have HM2 := Lib.hid (show numA 8 (l.drop 4) = ((ptrOf l).bi, 0, l.drop 12) by
    rw [show numA 8 (l.drop 4) = _ from numA_in8 8 (l.drop 4) (by rw [List.length_drop]; omega) (by omega), p8, List.drop_drop])
  have HM3 := Lib.hid (show hashA (l.drop 12) = ((ptrOf l).su, 0, l.drop 44) by
    unfold hashA
    rw [if_neg (by rw [List.length_drop]; omega), p32, List.drop_drop])
  have hz := zero_ptr
  have hzh := zero_hash7
  have SE := Lib.hid (size_ptrA (ptrOf l))
  have SO := Lib.hid (ptrRow_one (ptrOf l))
  have SL := Lib.hid (show (ptrRow zeroPtr).toArray.size = (ptrRow (ptrOf l)).toArray.size by simp [ptrRow_length])
  have HBD := Lib.hid (build_ptr (ptrOf l))
  have SH := Lib.hid (size_hash7 (ptrOf l).su (ptrOf l).s0.1)
  have SHO := Lib.hid (i8s_one (ptrOf l).su)
  have SHL := Lib.hid (show (i8s (List.replicate 32 0)).size = (i8s (ptrOf l).su).size by rw [i8s_size, i8s_size, (ptrOf l).s0.1]; simp)
  have hwr : IntKind.u32.wrap (ptrOf l).ad = (ptrOf l).ad := IntWalk.u32_in _ (by have := (ptrOf l).a0; omega)
  have HRl := Lib.hid (show R < w.heap.size from (Array.getElem?_eq_some_iff.1 h.cell).1)
  have HB := Lib.hid hb
  have HA := Lib.hid hA
  have HSZ := Lib.hid hsz
  have hlt : decide ((l.length : Int) < 44) = false := by simp; omega
  clear h hT hb hA h1 hs hsz hby p4 p8 p32 hr1
  generalize (ptrRow zeroPtr).toArray = ZR at *
  generalize (ptrRow (ptrOf l)).toArray = QR at *
  generalize (ptrOf l).ad = ad at *
  generalize (ptrOf l).bi = bi at *
  generalize (ptrOf l).su = su at *
  generalize i8s (List.replicate 32 0) = ZH at *
  generalize hSU : i8s su = SU at *
  have HSU := Lib.hid hSU
  clear hSU
  generalize hW1 : w.alloc (.cells ZR 36) = w1 at *
  go_enter Try.func71, Try.ntmps71
  go_upto_region 1 with fail
  clear hW1 hz
  go_wp2_with fail
  refine HN.out.mono ?_
  rintro e w2 ⟨rfl, rfl⟩
  clear HN
  go_wp2_with fail
  refine HN1.out.mono ?_
  rintro e w2 ⟨rfl, r2, O2⟩
  have HN2 := Lib.hid (pnum_t _ R _ 8 w2 r2 (by omega))
  rw [HM2.out] at HN2
  have HA2 := Lib.hid ((O2.rest w.heap.size (by have := HRl.out; omega)).trans HA.out)
  have C2 := Lib.hid ((Chg.of_below HB.out).trans (Chg.of_only O2))
  have SZ2 := Lib.hid (show w2.heap.size = w.heap.size + 1 by rw [O2.size]; exact HSZ.out)
  clear r2 O2 HN1 HM2 HA HB hlt
  go_wp2_with fail
  refine HN2.out.mono ?_
  rintro e w3 ⟨rfl, r3, O3⟩
  have HN3 := Lib.hid (phash_t _ R _ w3 r3)
  rw [HM3.out] at HN3
  have HA3 := Lib.hid ((O3.rest w.heap.size (by have := HRl.out; omega)).trans HA2.out)
  have C3 := Lib.hid (C2.out.trans (Chg.of_only O3))
  have SZ3 := Lib.hid (show w3.heap.size = w.heap.size + 1 by rw [O3.size]; exact SZ2.out)
  clear r3 O3 HN2 HM3 HA2 C2
  go_wp2_with fail
  refine HN3.out.mono ?_
  rintro e w4 ⟨rfl, r4, O4⟩
  have HA4 := Lib.hid ((O4.block w.heap.size (by have := SZ3.out; omega) (by have := HRl.out; omega)).trans HA3.out)
  have C4 := Lib.hid (C3.out.trans O4)
  have HR4 := Lib.hid r4
  have SZ4 := Lib.hid (show w.heap.size + 1 ≤ w4.heap.size by have := O4.size; have := SZ3.out; omega)
  clear r4 O4 HN3 HA3 C3
  rw [HSU.out]
  have HH := Lib.hid (heap_alloc_new w4 (.cells ZH 34))
  go_upto_region 8 with (first
    | (with_reducible refine wpList_store_row (o := ⟨none, .store _ (.tmp 8) _, _, _, _, _⟩) rfl 34 _ _ rfl w4.heap.size SU rfl rfl 34 ZH HH.out SH.out SHL.out SHO.out ?_))
  have H5 := Lib.hid (setRow_heap (w4.alloc (.cells ZH 34)) w4.heap.size _ SU _ _ HH.out)
  have hb5 : Below w4.heap.size w4 ((w4.alloc (.cells ZH 34)).setRow w4.heap.size SU) := ybelow_row ((Below.refl w4.heap.size w4).alloc (Nat.le_refl _) _) (Nat.le_refl _) _
  have HA5 := Lib.hid ((hb5.block w.heap.size (by have := SZ4.out; omega)).trans HA4.out)
  have HB5 := Lib.hid hb5
  generalize (w4.alloc (.cells ZH 34)).setRow w4.heap.size SU = w5 at *
  clear hb5 HH HA4 hzh
  go_wp2_with (first
    | (with_reducible refine wpList_load_row (o := ⟨some 35, _, _, _, _, _⟩) rfl 34 _ rfl w4.heap.size rfl 34 SU (0, 0) _ H5.out Try.underlying34 rfl SH.out ?_)
    | (with_reducible refine wpList_build_run (o := ⟨some 36, _, _, _, _, _⟩) rfl 36 _ rfl #[(0, .int .u32 ad), (1, .int .u64 bi), (2, .agg SU)] (by simp [Act.eval, Act.put]) (.agg QR) (HBD.out _) ?_)
    | (with_reducible refine wpList_store_row (o := ⟨none, .store _ (.tmp 2) _, _, _, _, _⟩) rfl 36 _ _ rfl w.heap.size QR rfl rfl 36 ZR HA5.out SE.out SL.out SO.out ?_))
  have hb6 : Below w.heap.size w4 (w5.setRow w.heap.size QR) := ybelow_row (HB5.out.mono (by have := SZ4.out; omega)) (Nat.le_refl _) _
  refine bodyPost_ret (v := .tuple #[.agg QR, .int .i64 0]) (results_cell_two Try.results71 _ _ w.heap.size 36 QR (0, 0) _ rfl (setRow_heap _ w.heap.size _ QR _ _ HA5.out) Try.underlying36 rfl SE.out _ (by simp)) rfl ⟨rfl, ?_, ?_⟩
  · exact (HR4.out.keep (Nat.le_trans (by have := SZ4.out; have := HNW.out; omega) hb6.size) (fun k hk => hb6.block k (Nat.lt_of_lt_of_le hk HNW.out)))
  · exact ⟨hb6.os.trans C4.out.os, hb6.tape.trans C4.out.tape, hb6.output.trans C4.out.output, Nat.le_trans C4.out.size (Nat.le_trans HB5.out.size (by simp)), fun k hk hne => (hb6.block k hk).trans (C4.out.block k hk hne)⟩
theorem pget_t (N R : Nat) (l : List Int) (w : World) (h : RT N w 114 R l) :
    Calls Try.prog 71 #[.pointer (some ⟨R, 0, none⟩)] w fun e w' => e = .returned (.tuple #[.agg (ptrRow (getA l).1).toArray, .int .i64 (getA l).2.1]) ∧ RT N w' 114 R (getA l).2.2 ∧ Chg R w w' := by
  obtain ⟨ab, lb, cb, hr⟩ := h.rr
  by_cases hs : l.length < 44
  · rw [show getA l = (zeroPtr, 3, l) by unfold getA; rw [if_pos hs]]
    exact pget_short_t R lb cb ab l N w h hr hs
  · rw [show getA l = (ptrOf l, 0, l.drop 44) by unfold getA; rw [if_neg hs]]
    exact pget_ok_t R lb cb ab l N w h hr (by omega)
set_option maxRecDepth 100000 in
set_option maxHeartbeats 3200000 in
theorem rgetp_short_t (R lb cb : Nat) (ab : Option Addr) (l : List Int) (N : Nat) (w : World) (hT : RT N w 79 R l) (h : RR w 79 R ab lb cb l) (hs : l.length < 44) :
    Calls Try.prog 48 #[.pointer (some ⟨R, 0, none⟩)] w fun e w' => e = .returned (.tuple #[.agg (ptrRow zeroPtr).toArray, .int .i64 3]) ∧ RT N w' 79 R l ∧ Chg R w w' := by
  have HT0 := Lib.hid hT
  have HNW := Lib.hid hT.1
  have HBK := Lib.hid (rt_block hT h)
  obtain ⟨hb2, hs2, hA1, hA2⟩ := two_ptrs w (ptrRow zeroPtr).toArray
  have c0 := (h.below hb2).at
  have H0 := Lib.hid h
  have hz := zero_ptr
  have SE := Lib.hid (size_ptrA zeroPtr)
  have SO := Lib.hid (ptrRow_one zeroPtr)
  have HB := Lib.hid hb2
  have HA1 := Lib.hid hA1
  have HA2 := Lib.hid hA2
  have hlt : decide ((lb : Int) < 44) = true := by have := h.len; simp; omega
  have hlt2 : decide (lb < 44) = true := by have := h.len; simp; omega
  clear h hT hb2 hA1 hA2 hs hs2
  generalize (ptrRow zeroPtr).toArray = ZR at *
  generalize hW2 : (w.alloc (.cells ZR 36)).alloc (.cells ZR 36) = w2 at *
  go_enter Try.func48, Try.ntmps48
  go_upto_region 2 with fail
  try rw [hW2]
  clear hW2 hz
  go_wp2_with (first
    | (with_reducible refine wpList_load_row (o := ⟨some 13, _, _, _, _, _⟩) rfl 36 _ rfl (w.heap.size + 1) rfl 36 ZR (0, 0) _ HA2.out Try.underlying36 rfl SE.out ?_)
    | (with_reducible refine wpList_store_row (o := ⟨none, .store _ (.tmp 2) _, _, _, _, _⟩) rfl 36 _ _ rfl w.heap.size ZR rfl rfl 36 ZR HA1.out SE.out rfl SO.out ?_))
  have h5 : Below w.heap.size w (w2.setRow w.heap.size ZR) := ybelow_row HB.out (Nat.le_refl _) _
  refine bodyPost_ret (v := .tuple #[.agg ZR, .int .i64 3]) (results_cell_two Try.results48 _ _ w.heap.size 36 ZR (0, 0) _ rfl (setRow_heap _ w.heap.size _ ZR _ _ HA1.out) Try.underlying36 rfl SE.out _ (by simp)) rfl ⟨rfl, rt_below HT0.out (h5), Chg.of_below h5⟩
set_option maxRecDepth 100000 in
set_option maxHeartbeats 3200000 in
theorem rgetp_ok_t (R lb cb : Nat) (ab : Option Addr) (l : List Int) (N : Nat) (w : World) (hT : RT N w 79 R l) (h : RR w 79 R ab lb cb l) (hs : 44 ≤ l.length) :
    Calls Try.prog 48 #[.pointer (some ⟨R, 0, none⟩)] w fun e w' => e = .returned (.tuple #[.agg (ptrRow (ptrOf l)).toArray, .int .i64 0]) ∧ RT N w' 79 R (l.drop 44) ∧ Chg R w w' := by
  have HT0 := Lib.hid hT
  have HNW := Lib.hid hT.1
  have HBK := Lib.hid (rt_block hT h)
  obtain ⟨hb2, hs2, hA1, hA2⟩ := two_ptrs w (ptrRow zeroPtr).toArray
  have c0 := (h.below hb2).at
  have hr1 := hT.keep (w' := (w.alloc (.cells (ptrRow zeroPtr).toArray 36)).alloc (.cells (ptrRow zeroPtr).toArray 36)) (by have := hT.1; omega) (fun k hk => hb2.block k (Nat.lt_of_lt_of_le hk hT.1))
  have hby := h.bytes.byt
  obtain ⟨p4, p8, p32⟩ := ptrOf_parts l hs hby
  have HN1 := Lib.hid (rnum_t _ R l 4 _ hr1 (by omega))
  rw [show numA 4 l = (num (l.take 4), 0, l.drop 4) from numA_in8 4 l (by omega) (by omega), p4] at HN1
  have HM2 := Lib.hid (show numA 8 (l.drop 4) = ((ptrOf l).bi, 0, l.drop 12) by
    rw [show numA 8 (l.drop 4) = _ from numA_in8 8 (l.drop 4) (by rw [List.length_drop]; omega) (by omega), p8, List.drop_drop])
  have HM3 := Lib.hid (show hashA (l.drop 12) = ((ptrOf l).su, 0, l.drop 44) by
    unfold hashA
    rw [if_neg (by rw [List.length_drop]; omega), p32, List.drop_drop])
  have hz := zero_ptr
  have SE := Lib.hid (size_ptrA (ptrOf l))
  have SO := Lib.hid (ptrRow_one (ptrOf l))
  have SL := Lib.hid (show (ptrRow zeroPtr).toArray.size = (ptrRow (ptrOf l)).toArray.size by simp [ptrRow_length])
  have SH := Lib.hid (size_hash7 (ptrOf l).su (ptrOf l).s0.1)
  have SHO := Lib.hid (i8s_one (ptrOf l).su)
  have HPR := Lib.hid (show prow (ptrOf l).ad (ptrOf l).bi (ptrOf l).su = ptrRow (ptrOf l) from rfl)
  have HQL := Lib.hid (ptrOf l).s0.1
  have hwr : IntKind.u32.wrap (ptrOf l).ad = (ptrOf l).ad := IntWalk.u32_in _ (by have := (ptrOf l).a0; omega)
  have HRl := Lib.hid (show R < w.heap.size from (Array.getElem?_eq_some_iff.1 h.cell).1)
  have HB := Lib.hid hb2
  have HA1 := Lib.hid hA1
  have HA2 := Lib.hid hA2
  have HSZ := Lib.hid hs2
  have HZR := Lib.hid (show (ptrRow zeroPtr).toArray = (prow 0 0 (List.replicate 32 0)).toArray from rfl)
  have hlt : decide ((lb : Int) < 44) = false := by have := h.len; simp; omega
  have hlt2 : decide (lb < 44) = false := by have := h.len; simp; omega
  clear h hT hb2 hA1 hA2 hs hs2 hby p4 p8 p32 hr1
  generalize (ptrRow zeroPtr).toArray = ZR at *
  generalize hQR : (ptrRow (ptrOf l)).toArray = QR at *
  generalize (ptrOf l).ad = ad at *
  generalize (ptrOf l).bi = bi at *
  generalize (ptrOf l).su = su at *
  have HQR := Lib.hid (show (prow ad bi su).toArray = QR by rw [HPR.out]; exact hQR)
  clear hQR HPR
  generalize hW2 : (w.alloc (.cells ZR 36)).alloc (.cells ZR 36) = w2 at *
  go_enter Try.func48, Try.ntmps48
  go_upto_region 2 with fail
  try rw [hW2]
  clear hW2 hz
  go_wp2_with fail
  refine HN1.out.mono ?_
  rintro e w3 ⟨rfl, r3, O3⟩
  have HN2 := Lib.hid (fun w3' (q : RT N w3' 79 R (List.drop 4 l)) => rnum_t _ R _ 8 w3' q (by omega))
  rw [HM2.out] at HN2
  have HA13 := Lib.hid ((O3.rest w.heap.size (by have := HRl.out; omega)).trans HA1.out)
  have hA23 := (O3.rest (w.heap.size + 1) (by have := HRl.out; omega)).trans HA2.out
  rw [HZR.out] at hA23
  have HA23 := Lib.hid hA23
  have C3 := Lib.hid ((Chg.of_below HB.out).trans (Chg.of_only O3))
  have SZ3 := Lib.hid (show w3.heap.size = w.heap.size + 2 by rw [O3.size]; exact HSZ.out)
  have R3 := Lib.hid r3
  have d0 : w3.cell? ⟨w.heap.size + 1, 0, none⟩ = some (.int .u32 0) := cell_of_row _ _ _ _ _ _ hA23
  have f0 : w3.frozen? ⟨w.heap.size + 1, 0, none⟩ = false := frozen_of_row _ _ _ _ _ hA23
  clear r3 O3 HN1 HM2 HA1 HA2 HB hlt hlt2 c0 hA23
  go_upto_region 6 with fail
  have hA4 := heap_setCell_same w3 (w.heap.size + 1) 0 _ _ (.int .u32 ad) HA23.out
  rw [show (prow 0 0 (List.replicate 32 0)).toArray.setIfInBounds 0 (.int .u32 ad) = (prow ad 0 (List.replicate 32 0)).toArray by simp [prow]] at hA4
  have hb4 : Below (w.heap.size + 1) w3 (w3.setCell ⟨w.heap.size + 1, 0, none⟩ (.int .u32 ad)) := ((Below.refl w3.heap.size w3).mono (by have := SZ3.out; omega)).setCell (show w.heap.size + 1 ≤ (⟨w.heap.size + 1, 0, none⟩ : Addr).block from Nat.le_refl _) _
  have hs4 : (w3.setCell ⟨w.heap.size + 1, 0, none⟩ (.int .u32 ad)).heap.size = w.heap.size + 2 := by rw [← SZ3.out]; simp
  generalize w3.setCell ⟨w.heap.size + 1, 0, none⟩ (.int .u32 ad) = w4 at *
  have HN2' := Lib.hid (HN2.out w4 (R3.out.keep (by have := HNW.out; omega) (fun k hk => hb4.block k (by have := HNW.out; omega))))
  have HA14 := Lib.hid ((hb4.block w.heap.size (by omega)).trans HA13.out)
  have HA24 := Lib.hid hA4
  have C4 := Lib.hid (chg_below C3.out (Nat.le_succ _) hb4)
  have SZ4 := Lib.hid hs4
  clear hA4 hb4 hs4 HN2 HA13 HA23 C3 SZ3 R3 d0 f0 hwr
  go_wp2_with fail
  refine HN2'.out.mono ?_
  rintro e w5 ⟨rfl, r5, O5⟩
  have HA15 := Lib.hid ((O5.rest w.heap.size (by have := HRl.out; omega)).trans HA14.out)
  have hA25 := (O5.rest (w.heap.size + 1) (by have := HRl.out; omega)).trans HA24.out
  have HA25 := Lib.hid hA25
  have C5 := Lib.hid (C4.out.trans (Chg.of_only O5))
  have SZ5 := Lib.hid (show w5.heap.size = w.heap.size + 2 by rw [O5.size]; exact SZ4.out)
  have R5 := Lib.hid r5
  have d1 : w5.cell? ⟨w.heap.size + 1, 1, none⟩ = some (.int .u64 0) := cell_of_row _ _ _ _ _ _ hA25
  have f1 : w5.frozen? ⟨w.heap.size + 1, 1, none⟩ = false := frozen_of_row _ _ _ _ _ hA25
  clear r5 O5 HN2' HA14 HA24 C4 SZ4 hA25
  go_upto_region 7 with fail
  have hA6 := heap_setCell_same w5 (w.heap.size + 1) 1 _ _ (.int .u64 bi) HA25.out
  rw [show (prow ad 0 (List.replicate 32 0)).toArray.setIfInBounds 1 (.int .u64 bi) = (prow ad bi (List.replicate 32 0)).toArray by simp [prow]] at hA6
  have hb6 : Below (w.heap.size + 1) w5 (w5.setCell ⟨w.heap.size + 1, 1, none⟩ (.int .u64 bi)) := ((Below.refl w5.heap.size w5).mono (by have := SZ5.out; omega)).setCell (show w.heap.size + 1 ≤ (⟨w.heap.size + 1, 1, none⟩ : Addr).block from Nat.le_refl _) _
  have hs6 : (w5.setCell ⟨w.heap.size + 1, 1, none⟩ (.int .u64 bi)).heap.size = w.heap.size + 2 := by rw [← SZ5.out]; simp
  generalize w5.setCell ⟨w.heap.size + 1, 1, none⟩ (.int .u64 bi) = w6 at *
  have HN3 := Lib.hid (rhash_t _ R _ w6 (R5.out.keep (by have := HNW.out; omega) (fun k hk => hb6.block k (by have := HNW.out; omega))))
  rw [HM3.out] at HN3
  have HA16 := Lib.hid ((hb6.block w.heap.size (by omega)).trans HA15.out)
  have HA26 := Lib.hid hA6
  have C6 := Lib.hid (chg_below C5.out (Nat.le_succ _) hb6)
  have SZ6 := Lib.hid hs6
  clear hA6 hb6 hs6 HA15 HA25 C5 SZ5 R5 d1 f1 HM3
  go_wp2_with fail
  refine HN3.out.mono ?_
  rintro e w7 ⟨rfl, r7, O7⟩
  have HA17 := Lib.hid ((O7.block w.heap.size (by have := SZ6.out; omega) (by have := HRl.out; omega)).trans HA16.out)
  have hA27 := (O7.block (w.heap.size + 1) (by have := SZ6.out; omega) (by have := HRl.out; omega)).trans HA26.out
  have C7 := Lib.hid (C6.out.trans O7)
  have SZ7 := Lib.hid (show w.heap.size + 2 ≤ w7.heap.size by have := O7.size; have := SZ6.out; omega)
  have R7 := Lib.hid r7
  have HTH := Lib.hid (show w7.there (w.heap.size + 1) 2 (i8s su).size from fun j hj => by
    rw [i8s_size, HQL.out] at hj
    refine ⟨?_, frozen_of_row _ _ _ _ _ hA27⟩
    rw [cell_of_row _ _ _ _ _ _ hA27]
    rw [List.getElem?_toArray, List.getElem?_eq_getElem (by simp [prow]; omega)]
    rfl)
  have H8 := Lib.hid (heap_putAt (w.heap.size + 1) 36 (i8s su).toList 2 w7 _ hA27 (by simp [prow, i8s, HQL.out]))
  have HP8 := Lib.hid (show (putAt (prow ad bi (List.replicate 32 0)) 2 (i8s su).toList).toArray = QR by
    rw [← HQR.out]
    have hl := HQL.out
    simp [putAt, prow, i8s, hl])
  clear r7 O7 HN3 HA16 HA26 C6 SZ6 hA27
  go_upto_region 8 with (first
    | (with_reducible refine wpList_store_mid (op := ⟨none, .store _ (.tmp 33) _, _, _, _, _⟩) rfl 34 _ _ rfl (w.heap.size + 1) 2 (i8s su) rfl rfl HTH.out SH.out SHO.out ?_))
  have hA8 := H8.out
  rw [HP8.out] at hA8
  have hb8 := below_sets (w.heap.size + 1) (i8s su).toList 2 w7 w7 (w.heap.size + 1) ((Below.refl w7.heap.size w7).mono (by have := SZ7.out; omega)) (Nat.le_refl _)
  generalize w7.setCells (w.heap.size + 1) 2 (i8s su).toList = w8 at *
  have HA18 := Lib.hid ((hb8.block w.heap.size (by omega)).trans HA17.out)
  have HA28 := Lib.hid hA8
  have C8 := Lib.hid (chg_below C7.out (Nat.le_succ _) hb8)
  have R8 := Lib.hid (R7.out.keep (w' := w8) (by have := HNW.out; have := hb8.size; have := SZ7.out; omega) (fun k hk => hb8.block k (by have := HNW.out; omega)))
  have SZ8 := Lib.hid (Nat.le_trans SZ7.out hb8.size)
  clear hA8 hb8 H8 HP8 HA17 C7 R7 SZ7 HTH
  go_wp2_with (first
    | (with_reducible refine wpList_load_row (o := ⟨some 34, _, _, _, _, _⟩) rfl 36 _ rfl (w.heap.size + 1) rfl 36 QR (0, 0) _ HA28.out Try.underlying36 rfl SE.out ?_)
    | (with_reducible refine wpList_store_row (o := ⟨none, .store _ (.tmp 2) _, _, _, _, _⟩) rfl 36 _ _ rfl w.heap.size QR rfl rfl 36 ZR HA18.out SE.out SL.out SO.out ?_))
  have hb9 : Below w.heap.size w8 (w8.setRow w.heap.size QR) := ybelow_row ((Below.refl w8.heap.size w8).mono (by have := SZ8.out; omega)) (Nat.le_refl _) _
  refine bodyPost_ret (v := .tuple #[.agg QR, .int .i64 0]) (results_cell_two Try.results48 _ _ w.heap.size 36 QR (0, 0) _ rfl (setRow_heap _ w.heap.size _ QR _ _ HA18.out) Try.underlying36 rfl SE.out _ (by simp)) rfl ⟨rfl, ?_, ?_⟩
  · exact (R8.out.keep (Nat.le_trans (by have := SZ8.out; have := HNW.out; omega) hb9.size) (fun k hk => hb9.block k (Nat.lt_of_lt_of_le hk HNW.out)))
  · exact chg_below C8.out (Nat.le_refl _) hb9
theorem rgetp_t (N R : Nat) (l : List Int) (w : World) (h : RT N w 79 R l) :
    Calls Try.prog 48 #[.pointer (some ⟨R, 0, none⟩)] w fun e w' => e = .returned (.tuple #[.agg (ptrRow (getA l).1).toArray, .int .i64 (getA l).2.1]) ∧ RT N w' 79 R (getA l).2.2 ∧ Chg R w w' := by
  obtain ⟨ab, lb, cb, hr⟩ := h.rr
  by_cases hs : l.length < 44
  · rw [show getA l = (zeroPtr, 3, l) by unfold getA; rw [if_pos hs]]
    exact rgetp_short_t R lb cb ab l N w h hr hs
  · rw [show getA l = (ptrOf l, 0, l.drop 44) by unfold getA; rw [if_neg hs]]
    exact rgetp_ok_t R lb cb ab l N w h hr (by omega)
theorem pstr_t (N R : Nat) (l : List Int) (w : World) (h : RT N w 114 R l) :
    Calls Try.prog 70 #[.pointer (some ⟨R, 0, none⟩)] w fun e w' => e = .returned (.tuple #[.string (strA l).1, .int .i64 (strA l).2.1]) ∧ RT N w' 114 R (strA l).2.2 ∧ Chg R w w' := by
  obtain ⟨ab, lb, cb, hr⟩ := h.rr
  exact (pstr_tt R lb cb ab l N w h hr).mono fun e w' ⟨he, hr, hO⟩ => ⟨he, hr, hO⟩
theorem rstr_t (N R : Nat) (l : List Int) (w : World) (h : RT N w 79 R l) :
    Calls Try.prog 47 #[.pointer (some ⟨R, 0, none⟩)] w fun e w' => e = .returned (.tuple #[.string (strA l).1, .int .i64 (strA l).2.1]) ∧ RT N w' 79 R (strA l).2.2 ∧ Chg R w w' := by
  obtain ⟨ab, lb, cb, hr⟩ := h.rr
  exact (rstr_tt R lb cb ab l N w h hr).mono fun e w' ⟨he, hr, hO⟩ => ⟨he, hr, Chg.of_only hO⟩
end Go.Proofs.Ytkafabcklohlmaa
namespace Go.Proofs.Ytkafabcklohlmaa
set_option maxRecDepth 4000
open Go.ChangeShapes Go.WideShapes Go.ChangeAt Go.RowKit

theorem own_below8 {B n k : Nat} {e : TypeId} {v : Value} {xs : List Value} {w w' : World} (h : w.ownsRow B e k v n xs) (hb : Below w.heap.size w w') : w'.ownsRow B e k v n xs :=
  h.kept (row := none) ⟨hb.os, hb.tape, hb.output, hb.size, fun j hj _ => hb.block j hj⟩ (by by_cases q : v.ownBlock = none; exact .inl q; exact .inr q)
set_option maxHeartbeats 800000 in
theorem rbytes8_any (x : Int) (n : Nat) (w : World) (h2 : n ≤ 8) (h0 : 0 ≤ x) (h1 : x < 18446744073709551616) (h3 : x / 256 ^ n = 0) :
    Calls Try.prog 67 #[.int .u64 x, .int .i64 n] w fun e w' => e = .returned (.slice (some ⟨w.heap.size, 0, none⟩) n n) ∧ w'.ownsRow w.heap.size 5 1 (.slice (some ⟨w.heap.size, 0, none⟩) n n) n ((putI x n).map (.int .u8)) ∧ Below w.heap.size w w' := by
  have HP := Lib.hid (rput_loop x n w h2 h0 h1)
  have H3 := Lib.hid h3
  clear h0 h1 h2 h3
  go_enter Try.func67, Try.ntmps67
  go_wp2_with fail
  refine HP.out.mono ?_
  rintro e w' ⟨hb, h | h⟩
  · obtain ⟨_, rfl, ho⟩ := h
    have HO := Lib.hid ho
    clear ho
    go_wp2_with fail
    go_ret
    exact ⟨rfl, HO.out, hb⟩
  · exact absurd H3.out h.1
set_option maxRecDepth 100000 in
set_option maxHeartbeats 3200000 in
theorem rptrb_any (q : PtrV) (w : World) :
    Calls Try.prog 44 #[.agg (ptrRow q).toArray] w fun e w' => ∃ a c, e = .returned (.slice a 44 c) ∧ 44 ≤ c ∧ BS w' (.slice a 44 c) (ptrB q) ∧ Below w.heap.size w w' := by
  have hb := (Below.refl w.heap.size w).alloc (Nat.le_refl _) (.cells (ptrRow q).toArray 36)
  have hA := heap_alloc_new w (.cells (ptrRow q).toArray 36)
  obtain ⟨c0, c1, c2⟩ := ptr_at hA
  have ha := q.a0
  have hq := q.b0
  have HC1 := Lib.hid (fun W => rbytes8_any q.ad 4 W (by omega) ha.1 (by omega) (Int.ediv_eq_zero_of_lt ha.1 (by omega)))
  have HC2 := Lib.hid (fun W => rbytes8_any q.bi 8 W (by omega) hq.1 (by omega) (Int.ediv_eq_zero_of_lt hq.1 (by omega)))
  have HWR := Lib.hid (show IntKind.u64.wrap q.ad = q.ad from IntWalk.u64_in _ (by omega))
  have HPB := Lib.hid (show ptrB q = putI q.ad 4 ++ (putI q.bi 8 ++ q.su) from rfl)
  have HPL := Lib.hid (And.intro (ptrB_length q) (ptrB_byt q))
  have HSU := Lib.hid q.s0
  have HB0 := Lib.hid hb
  have hT : w.heap.size < (w.alloc (.cells (ptrRow q).toArray 36)).heap.size := by simp
  have hS : ∀ W : World, Below (w.alloc (.cells (ptrRow q).toArray 36)).heap.size (w.alloc (.cells (ptrRow q).toArray 36)) W → W.cell? ⟨w.heap.size, 0, none⟩ = some (.int .u32 q.ad) ∧ W.cell? ⟨w.heap.size, 1, none⟩ = some (.int .u64 q.bi) :=
    fun W hb => ⟨(hb.cell hT).trans c0, (hb.cell hT).trans c1⟩
  have HS := Lib.hid hS
  have HS2 := Lib.hid (show ∀ W : World, Below (w.alloc (.cells (ptrRow q).toArray 36)).heap.size (w.alloc (.cells (ptrRow q).toArray 36)) W → BS W (.slice (some ⟨w.heap.size, 2, none⟩) 32 32) q.su from fun W hb =>
    ⟨some ⟨w.heap.size, 2, none⟩, 32, by rw [q.s0.1], q.s0.2, nofun, .inr ⟨w.heap.size, 2, rfl, fun i hi => by
      rw [hb.cell hT]
      exact c2 i _ (by rw [List.getElem?_map, List.getElem?_eq_getElem hi]; simp [List.getD, hi])⟩⟩)
  have hsl := slice_hash_mid w.heap.size 2
  clear hb hA hT hS c0 c1 c2 ha hq
  generalize ptrB q = PB at *
  generalize (ptrRow q).toArray = AR at *
  generalize q.ad = ad at *
  generalize q.bi = bi at *
  generalize q.su = su at *
  go_enter Try.func44, Try.ntmps44
  go_upto_region 1 with fail
  generalize w.alloc (.cells AR 36) = w1 at *
  try simp only [Act.put]
  refine wp_region_noPanic ?_
  refine wp_region_held_drew (S := fun W => W.cell? ⟨w.heap.size, 0, none⟩ = some (.int .u32 ad) ∧ W.cell? ⟨w.heap.size, 1, none⟩ = some (.int .u64 bi)) (by kernel_rfl) (HS.out _ (Below.refl _ w1).drew) (fun hHeld => ?_)
  refine wpAnyH_take (i := 0) (oi := ⟨some 4, _, _, _, _, _⟩) (v := ?_) rfl (by kernel_rfl) (by decide +kernel) (by decide +kernel) (fun _ _ _ h => h) (Or.inl ⟨by rfl, ?_⟩) (by assumption) ?_
  rotate_left 1
  · (intro w' hSw; go_simp; try with_reducible rfl)
  try simp only [Act.put, List.setIfInBounds_toArray, List.set_cons_zero, List.set_cons_succ]
  refine wpAnyH_take (i := 1) (oi := ⟨some 5, _, _, _, _, _⟩) (v := ?_) rfl (by kernel_rfl) (by decide +kernel) (by decide +kernel) (fun _ _ _ h => h) (Or.inl ⟨by rfl, ?_⟩) (by assumption) ?_
  rotate_left 1
  · (intro w' hSw; obtain ⟨hc0, hc1⟩ := hSw; go_simp; try with_reducible rfl)
  try simp only [Act.put, List.setIfInBounds_toArray, List.set_cons_zero, List.set_cons_succ]
  have hwr := HWR.out
  refine wpAnyH_take (i := 2) (oi := ⟨some 6, _, _, _, _, _⟩) (v := ?_) rfl (by kernel_rfl) (by decide +kernel) (by decide +kernel) (fun _ _ _ h => h) (Or.inl ⟨by rfl, ?_⟩) (by assumption) ?_
  rotate_left 1
  · (intro w' hSw; go_simp; try with_reducible rfl)
  try simp only [Act.put, List.setIfInBounds_toArray, List.set_cons_zero, List.set_cons_succ]
  clear hwr
  refine wpAnyH_take (i := 4) (oi := ⟨some 8, _, _, _, _, _⟩) (v := ?_) rfl (by kernel_rfl) (by decide +kernel) (by decide +kernel) (fun _ _ _ h => h) (Or.inl ⟨by rfl, ?_⟩) (by assumption) ?_
  rotate_left 1
  · (intro w' hSw; go_simp; try with_reducible rfl)
  try simp only [Act.put, List.setIfInBounds_toArray, List.set_cons_zero, List.set_cons_succ]
  refine wpAnyH_take (i := 5) (oi := ⟨some 9, _, _, _, _, _⟩) (v := ?_) rfl (by kernel_rfl) (by decide +kernel) (by decide +kernel) (fun _ _ _ h => h) (Or.inl ⟨by rfl, ?_⟩) (by assumption) ?_
  rotate_left 1
  · (intro w' hSw; obtain ⟨hc0, hc1⟩ := hSw; go_simp; try with_reducible rfl)
  try simp only [Act.put, List.setIfInBounds_toArray, List.set_cons_zero, List.set_cons_succ]
  refine wpAnyH_ready (rs := [3]) (by decide +kernel) (by simp) ?_
  refine AllReadyH.cons rfl (fun K hK => ?_) AllReadyH.nil
  go_simp
  go_at_call 67
  refine (HC1.out _).mono ?_
  rintro e w3 ⟨rfl, ho3, hb3⟩
  have HB3 := Lib.hid (show Below w1.heap.size w1 w3 from (Below.refl _ w1).drew.trans hb3)
  have HO3 := Lib.hid (show w3.ownsRow w1.heap.size 5 1 (.slice (some ⟨w1.heap.size, 0, none⟩) 4 4) 4 ((putI ad 4).map (.int .u8)) from ho3)
  clear ho3 hb3 hHeld
  go_wp2_with fail
  refine hK.out _ _ (HS.out _ HB3.out) (fun hHeld => ?_)
  clear hK K
  try simp only [Act.put, List.setIfInBounds_toArray, List.set_cons_zero, List.set_cons_succ]
  refine wpAnyH_ready (rs := [6]) (by decide +kernel) (by simp) ?_
  refine AllReadyH.cons rfl (fun K hK => ?_) AllReadyH.nil
  go_simp
  go_at_call 67
  refine (HC2.out _).mono ?_
  rintro e w4 ⟨rfl, ho4, hb4⟩
  have HB4 := Lib.hid (HB3.out.trans (hb4.mono HB3.out.size))
  have HO4 := Lib.hid (own_below8 HO3.out hb4)
  have HX4 := Lib.hid (BS.of_own ho4 (putI_length bi 8) (putI_byt bi 8))
  clear ho4 hb4 hHeld
  go_wp2_with fail
  refine hK.out _ _ (HS.out _ HB4.out) (fun hHeld => ?_)
  clear hK K
  try simp only [Act.put, List.setIfInBounds_toArray, List.set_cons_zero, List.set_cons_succ]
  clear hHeld
  obtain ⟨v5, w5, hr5, ho5, hg5, hn5⟩ := run_append_BS_at w4 w1.heap.size 4 _ _ _ _ HO4.out HX4.out (by rw [putI_length]; omega) HB4.out.size
  rw [putI_length, ← List.map_append] at ho5
  have HB5 := Lib.hid (HB4.out.grown hg5 HB4.out.size (by intro k hk; simp [Value.ownBlock] at hk; omega))
  have HO5 := Lib.hid ho5
  have HN5 := Lib.hid (show ∀ g, v5.ownBlock = some g → w1.heap.size ≤ g from fun g hg => (ho5.lt g hg).1)
  refine wpAnyH_ready (rs := [7]) (by decide +kernel) (by simp) ?_
  refine AllReadyH.cons rfl (fun K hK => ?_) AllReadyH.nil
  rw [if_pos (by kernel_rfl)]
  refine wp_append_run7 (o := ⟨some 11, _, _, _, _, _⟩) (.tmp 7) (.tmp 10) 64 64 rfl _ _ _ _ rfl rfl hr5 ?_
  clear hr5 ho5 hg5 hn5
  refine hK.out _ _ (HS.out _ HB5.out) (fun hHeld => ?_)
  clear hK K
  try simp only [Act.put, List.setIfInBounds_toArray, List.set_cons_zero, List.set_cons_succ]
  refine wpAnyH_take (i := 8) (oi := ⟨some 3, _, _, _, _, _⟩) (v := ?_) rfl (by kernel_rfl) (by decide +kernel) (by decide +kernel) (fun _ _ _ h => h) (Or.inl ⟨by rfl, ?_⟩) (by assumption) ?_
  rotate_left 1
  · (intro w' hSw; go_simp; try with_reducible rfl)
  try simp only [Act.put, List.setIfInBounds_toArray, List.set_cons_zero, List.set_cons_succ]
  clear hHeld
  refine wpAnyH_done (by decide +kernel) ?_ _
  refine NoPanic.normal ?_
  have HBS5 := Lib.hid (HS2.out _ HB5.out)
  obtain ⟨v6, w6, hr6, ho6, hg6, _⟩ := run_append_BS_at w5 w1.heap.size 12 _ _ _ _ HO5.out HBS5.out (by rw [HSU.out.1]; omega) HB5.out.size
  rw [HSU.out.1, ← List.map_append, List.append_assoc, ← HPB.out] at ho6
  obtain ⟨a6, c6, rfl, hc6, hb6⟩ := own_bs ho6 HPL.out.1 HPL.out.2
  have HR6 := Lib.hid hr6
  have HX6 := Lib.hid (And.intro hc6 hb6)
  have HB6 := Lib.hid (HB0.out.trans ((HB5.out.grown hg6 HB5.out.size (fun k hk => HN5.out k hk)).mono HB0.out.size))
  obtain ⟨a5, c5, rfl, _, _⟩ := own_bs HO5.out (by rw [List.length_append, putI_length, putI_length]) (fun z hz => by rcases List.mem_append.1 hz with h | h; exact putI_byt _ _ z h; exact putI_byt _ _ z h)
  clear hr6 ho6 hg6 hc6 hb6 HBS5 HO5 HN5 HB5 HB4 HB3 HO3 HO4 HX4 HC1 HC2 HS HS2
  go_wp2_with (first
    | (at_builtin; refine wpList_append_run (o := ⟨some 15, _, _, _, _, _⟩) rfl _ _ _ _ rfl _ _ _ _ rfl rfl HR6.out ?_))
  go_ret
  exact ⟨_, _, rfl, HX6.out.1, HX6.out.2, HB6.out⟩
end Go.Proofs.Ytkafabcklohlmaa
namespace Go.Proofs.Ytkafabcklohlmaa
set_option maxRecDepth 4000
open Go.ChangeShapes Go.WideShapes Go.ChangeAt Go.RowKit

/-- The chapter's example. -/
def exP : PtrV := ⟨3, 5, List.replicate 32 0, by decide, by decide, by decide, byt_zeros8 32⟩
theorem exP_bytes : ptrB exP = [0, 0, 0, 3, 0, 0, 0, 0, 0, 0, 0, 5] ++ List.replicate 32 0 := by decide
theorem par_ptr {H : Type} {enc : TypeId × Value → H} {W : World} {base : Nat} {v : Value} {d : DataW H} {p : List MemPlace} {ts : List TypeId} {ds : List (DataW H)} {j : Nat} (_hok : Value.okWide Try.prog W .any base 36 v) (h : ∃ fuel, DataW.trod enc Try.prog W 0 (fun _ => true) true fuel 36 v.cells.toList = some (d, p))
    (hsz : (DataW.weightsEach Try.prog ts ds).all (· ≤ reachBytes) = true) (ht : ts[j]? = some 36) (hd : ds[j]? = some d) : ∃ q : PtrV, v = .agg (ptrRow q).toArray := by
  obtain ⟨q, hq⟩ := opn_param opn_ptr h hsz ht hd
  have e : v.cells.toList = ptrRow q := hq
  refine ⟨q, ?_⟩
  rw [agg_cells (v := v) (by rw [e, ptrRow_length]; decide)]
  congr 1
  rw [← e]
theorem ptrs_at {w w' : World} {x : List PtrV} {a : Option Addr} {n c i : Nat} (h : Ptrs w x a n c) (hb : Below w.heap.size w w') (hi : i < n) :
    ∃ b off q, a = some ⟨b, off, none⟩ ∧ x[i]? = some q ∧ w'.rangeAt b (off + i * 34) (ptrRow q) := by
  obtain ⟨b, off, cs, h1, h2, _, h5⟩ := h.here i (by rw [h.len]; exact hi)
  obtain rfl : cs = ptrRow _ := h2
  exact ⟨b, off, _, h1, List.getElem?_eq_getElem _, range_below h5 hb⟩
end Go.Proofs.Ytkafabcklohlmaa
namespace Go.Proofs.Ytkafabcklohlmaa
set_option maxRecDepth 4000
open Go.ChangeShapes Go.WideShapes Go.ChangeAt Go.RowKit

/-- The cells of a list of pointers. -/
def rowsP (l : List PtrV) : List Value := l.flatMap ptrRow
theorem rowsP_snoc (l : List PtrV) (q : PtrV) : rowsP (l ++ [q]) = rowsP l ++ ptrRow q := by simp [rowsP]
theorem rowsP_length (l : List PtrV) : (rowsP l).length = l.length * 34 := by
  induction l with
  | nil => rfl
  | cons q l ih =>
    show (ptrRow q ++ rowsP l).length = _
    rw [List.length_append, ih, ptrRow_length, List.length_cons]
    omega
theorem own_belowP {B n k : Nat} {e : TypeId} {v : Value} {xs : List Value} {w w' : World} (h : w.ownsRow B e k v n xs) (hb : Below w.heap.size w w') : w'.ownsRow B e k v n xs :=
  h.kept (row := none) ⟨hb.os, hb.tape, hb.output, hb.size, fun j hj _ => hb.block j hj⟩ (by by_cases q : v.ownBlock = none; exact .inl q; exact .inr q)
theorem rowsP_at (l : List PtrV) (i : Nat) (q : PtrV) (hi : l[i]? = some q) (j : Nat) (hj : j < 34) : (rowsP l)[i * 34 + j]? = (ptrRow q)[j]? := by
  induction l generalizing i with
  | nil => simp at hi
  | cons p l ih =>
    show (ptrRow p ++ rowsP l)[i * 34 + j]? = _
    cases i with
    | zero =>
      simp at hi
      subst hi
      rw [List.getElem?_append_left (by rw [ptrRow_length]; omega)]
      congr 1
      omega
    | succ i =>
      rw [List.getElem?_append_right (by rw [ptrRow_length]; omega), ptrRow_length]
      rw [← ih i (by simpa using hi)]
      congr 1
      omega
theorem new_row8 (w : World) (Z R : Array Value) : ((w.alloc (.cells Z 36)).setRow w.heap.size R).heap[w.heap.size]? = some (.cells R 36 (0, 0)) ∧ Below w.heap.size w ((w.alloc (.cells Z 36)).setRow w.heap.size R) := by
  obtain ⟨e1, e2, e3⟩ := ygen_row (w := w) (old := Z) (cs := R) (T := 36)
  exact ⟨e1, e3⟩
end Go.Proofs.Ytkafabcklohlmaa
namespace Go.Proofs.Ytkafabcklohlmaa
set_option maxRecDepth 4000
set_option linter.unusedVariables false
open Go.ChangeShapes Go.WideShapes Go.ChangeAt Go.RowKit

/-- A slice whose elements are the pointers of the list. -/
def PS (w : World) (v : Value) (l : List PtrV) : Prop :=
  ∃ a c, v = .slice a l.length c ∧ ∀ (i : Nat) (q : PtrV), l[i]? = some q → ∃ b off, a = some ⟨b, off, none⟩ ∧ w.rangeAt b (off + i * 34) (ptrRow q)
theorem PS.below {w w' : World} {v : Value} {l : List PtrV} (h : PS w v l) (hb : Below w.heap.size w w') : PS w' v l := by
  obtain ⟨a, c, e, h⟩ := h
  refine ⟨a, c, e, fun i q hq => ?_⟩
  obtain ⟨b, off, h1, h2⟩ := h i q hq
  exact ⟨b, off, h1, range_below h2 hb⟩
theorem ps_own {w : World} {B : Nat} {v : Value} {n : Nat} {l : List PtrV} (h : w.ownsRow B 36 34 v n (rowsP l)) : PS w v l := by
  have hl := h.1
  rw [rowsP_length] at hl
  obtain rfl : l.length = n := Nat.eq_of_mul_eq_mul_right (by decide) hl
  rcases h.2 with ⟨rfl, h0⟩ | ⟨g, cap, cur, rfl, hbase, hb, h1, h2, h3, h4⟩
  · have : l = [] := List.length_eq_zero_iff.1 h0
    subst this
    exact ⟨none, 0, rfl, fun i q hq => by simp at hq⟩
  · refine ⟨_, cap, rfl, fun i q hq => ⟨g, 0, rfl, fun j u hj => ?_⟩⟩
    have hi : i < l.length := (List.getElem?_eq_some_iff.1 hq).1
    have hj34 : j < 34 := by have := (List.getElem?_eq_some_iff.1 hj).1; rwa [ptrRow_length] at this
    have e := rowsP_at l i q hq j hj34
    rw [hj, ← h4, List.getElem?_take_of_lt (by omega), Array.getElem?_toList] at e
    rw [Nat.zero_add]
    simp only [World.cell?, hb]
    simpa using e
theorem ps_in {w : World} {x : List PtrV} {a : Option Addr} {n c : Nat} (h : Ptrs w x a n c) : PS w (.slice a n c) x := by
  refine ⟨a, c, by rw [h.len], fun i q hq => ?_⟩
  obtain ⟨b, off, q', h1, h2, h3⟩ := ptrs_at h (Below.refl _ w) (i := i) (by rw [← h.len]; exact (List.getElem?_eq_some_iff.1 hq).1)
  rw [hq] at h2
  cases h2
  exact ⟨b, off, h1, h3⟩
end Go.Proofs.Ytkafabcklohlmaa
namespace Go.Proofs.Ytkafabcklohlmaa
set_option maxRecDepth 4000
open Go.ChangeShapes Go.WideShapes Go.ChangeAt Go.RowKit

end Go.Proofs.Ytkafabcklohlmaa
namespace Go.Proofs.Ytkafabcklohlmaa
set_option maxRecDepth 4000
set_option linter.unusedVariables false
open Go.ChangeShapes Go.WideShapes Go.ChangeAt Go.RowKit

theorem str_inj {p q : ByteArray} (h : p.toList = q.toList) : p = q := by
  rw [Lib.toList_data, Lib.toList_data] at h
  exact ByteArray.ext (Array.toList_inj.1 h)
theorem str_beq (p q : ByteArray) : (p.toList == q.toList) = decide (p = q) := by
  by_cases h : p = q
  · rw [h, decide_eq_true rfl]; simp
  · rw [decide_eq_false h, beq_eq_false_iff_ne]
    exact fun e => h (str_inj e)
/-- Whether one string stands ahead of the other. -/
def lo (a b : ByteArray) : Bool := Op.bytesLess a.toList b.toList
theorem lo_lt (a b : ByteArray) : lo a b = decide (a.toList < b.toList) := bytesLess_eq _ _
theorem lo_irr (a : ByteArray) : lo a a = false := by rw [lo_lt, decide_eq_false_iff_not]; exact List.lt_irrefl _
theorem lo_trans {a b c : ByteArray} (h : lo a b = true) (k : lo b c = true) : lo a c = true := by
  rw [lo_lt, decide_eq_true_iff] at *
  exact List.lt_trans h k
theorem lo_asymm {a b : ByteArray} (h : lo a b = true) : lo b a = false := by
  cases e : lo b a with
  | false => rfl
  | true => have := lo_trans h e; rw [lo_irr] at this; cases this
theorem lo_tri (a b : ByteArray) : lo a b = true ∨ a = b ∨ lo b a = true := by
  rw [lo_lt, lo_lt, decide_eq_true_iff, decide_eq_true_iff]
  by_cases h : a.toList < b.toList
  · exact .inl h
  · by_cases k : b.toList < a.toList
    · exact .inr (.inr k)
    · exact .inr (.inl (str_inj (List.le_antisymm k h)))
/-- A slice whose elements are the strings of the list. -/
def SS (w : World) (v : Value) (l : List ByteArray) : Prop :=
  ∃ a c, v = .slice a l.length c ∧ l.length ≤ c ∧ ∀ (i : Nat) (s : ByteArray), l[i]? = some s → ∃ b off, a = some ⟨b, off, none⟩ ∧ w.cell? ⟨b, off + i, none⟩ = some (.string s)
theorem SS.below {w w' : World} {v : Value} {l : List ByteArray} (h : SS w v l) (hb : Below w.heap.size w w') : SS w' v l := by
  obtain ⟨a, c, e, hc, h⟩ := h
  refine ⟨a, c, e, hc, fun i q hq => ?_⟩
  obtain ⟨b, off, h1, h2⟩ := h i q hq
  exact ⟨b, off, h1, (hb.cell (p := ⟨b, off + i, none⟩) (block_lt_of_cell h2)).trans h2⟩
theorem ss_nil (w : World) : SS w (.slice none 0 0) [] := ⟨none, 0, rfl, Nat.le_refl _, fun i q hq => by simp at hq⟩
theorem ss_own {w : World} {B : Nat} {v : Value} {n : Nat} {l : List ByteArray} (h : w.ownsRow B 9 1 v n (l.map Value.string)) : SS w v l := by
  have hl := h.1
  rw [List.length_map, Nat.mul_one] at hl
  subst hl
  rcases h.2 with ⟨rfl, h0⟩ | ⟨g, cap, cur, rfl, hbase, hb, h1, h2, h3, h4⟩
  · have : l = [] := List.length_eq_zero_iff.1 h0
    subst this
    exact ⟨none, 0, rfl, Nat.le_refl _, fun i q hq => by simp at hq⟩
  · refine ⟨_, cap, rfl, h1, fun i q hq => ⟨g, 0, rfl, ?_⟩⟩
    have hi : i < l.length := (List.getElem?_eq_some_iff.1 hq).1
    have e : (l.map Value.string)[i]? = some (.string q) := by rw [List.getElem?_map, hq]; rfl
    rw [← h4, List.getElem?_take_of_lt (by omega), Array.getElem?_toList] at e
    rw [Nat.zero_add]
    simp only [World.cell?, hb]
    simpa using e
theorem index_sl (b off len cap i : Nat) (h : i < len) (W : World) : (Instr.indexAt 57 (.slice (some ⟨b, off, none⟩) len cap) (.int .i64 (i : Int))).run Try.prog W = .ok (.pointer (some ⟨b, off + i, none⟩)) W := by
  obtain ⟨i0, hi, hs⟩ := Option.map_eq_some_iff.1 (show (Try.prog.info? 9).map (·.size) = some 1 by kernel_rfl)
  simp [Instr.indexAt, asIntOf, run_underlying Try.underlying57, sizeOf, typeInfo, hi, hs, h, Addr.add_mid]
end Go.Proofs.Ytkafabcklohlmaa
