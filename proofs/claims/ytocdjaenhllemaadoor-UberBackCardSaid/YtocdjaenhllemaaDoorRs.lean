/-
  Readers whose blocks are among the first N: Str and ptr.Get, of the program and of the document's answer. (Written by tools/XRs.make.py.)
-/
import Derived.Test.YtocdjaenhllemaaDoorPg
namespace Go.Proofs.YtocdjaenhllemaaDoor
set_option maxRecDepth 4000
set_option linter.unusedVariables false
open Go.RowKit

/-- The second address lies in the first one's block. -/
def SameB (a a' : Option Addr) : Prop := ∀ x', a' = some x' → ∃ x, a = some x ∧ x.block = x'.block
theorem SameB.refl (a : Option Addr) : SameB a a := fun x h => ⟨x, h, rfl⟩
theorem SameB.trans {a b c : Option Addr} (h : SameB a b) (k : SameB b c) : SameB a c := fun x e => by
  obtain ⟨y, e1, e2⟩ := k x e
  obtain ⟨z, e3, e4⟩ := h y e1
  exact ⟨z, e3, e4.trans e2⟩
theorem add_block (x : Addr) (k : Nat) : (x.add k).block = x.block := by unfold Addr.add; split <;> rfl
theorem slice_cut_s (W : World) (a : Option Addr) (len cap lo hi : Nat) (l : List Int) (hB : BS W (.slice a len cap) l) (hl : l.length = len) (h1 : lo ≤ hi) (h2 : hi ≤ len) (h3 : len ≤ cap) :
    ∃ a2 : Option Addr, (∀ W', (Instr.slice 22 (.slice a len cap) (some (.int .i64 (lo : Int))) (some (.int .i64 (hi : Int))) none).run Tryd.prog W' = .ok (.slice a2 (hi - lo) (cap - lo)) W') ∧
      (hi = len → ∀ W', (Instr.slice 22 (.slice a len cap) (some (.int .i64 (lo : Int))) none none).run Tryd.prog W' = .ok (.slice a2 (hi - lo) (cap - lo)) W') ∧
      (lo = 0 → ∀ W', (Instr.slice 22 (.slice a len cap) none (some (.int .i64 (hi : Int))) none).run Tryd.prog W' = .ok (.slice a2 (hi - lo) (cap - lo)) W') ∧
      BS W (.slice a2 (hi - lo) (cap - lo)) ((l.drop lo).take (hi - lo)) ∧ SameB a a2 := by
  obtain ⟨a2, e1, e2, e3, hb⟩ := slice_cut W a len cap lo hi l hB hl h1 h2 h3
  refine ⟨a2, e1, e2, e3, hb, ?_⟩
  obtain ⟨i0, hi0, hs⟩ := Option.map_eq_some_iff.1 yone
  have e4 := e1 W
  have b1 := ybound_ok hi cap .sliceAcap (by omega) W
  have b2 := ybound_ok lo hi .sliceB h1 W
  simp [Instr.slice, run_underlying Tryd.underlying22, Instr.sliceBounds, sizeOf, typeInfo, hi0, hs, b1, b2] at e4
  intro x' e
  rw [← e4] at e
  split at e
  · exact ⟨x', e, rfl⟩
  · cases a with
    | none => cases e
    | some ad =>
      simp only [Option.map_some, Option.some.injEq] at e
      exact ⟨ad, rfl, by rw [← e, add_block]⟩
theorem rt_of {N : Nat} {w : World} {t R lb cb : Nat} {ab : Option Addr} {l : List Int} (h : RR w t R ab lb cb l) (hR : R < N) (hN : N ≤ w.heap.size) (hd : ∀ x, ab = some x → l ≠ [] → x.block < N) : RT N w t R l := by
  refine ⟨hN, ab, lb, cb, (trunc_heap w hR).trans h.cell, ?_, h.len, h.cap, h.big⟩
  obtain ⟨a', cap', hv, hy, hn, hc⟩ := h.bytes
  refine ⟨a', cap', hv, hy, hn, ?_⟩
  rcases hc with h0 | ⟨b, off, ha, hc⟩
  · exact .inl h0
  · by_cases hl : l = []
    · exact .inl hl
    · have hb : b < N := hd ⟨b, off, none⟩ (by injection hv with e1 _ _; rw [e1, ha]) hl
      refine .inr ⟨b, off, ha, fun i hi => ?_⟩
      have q0 := hc i hi
      simp only [World.cell?] at q0 ⊢
      rw [trunc_heap w hb]
      exact q0
theorem rt_block {N : Nat} {w : World} {t R lb cb : Nat} {ab : Option Addr} {l : List Int} (h : RT N w t R l) (k : RR w t R ab lb cb l) : ∀ x, ab = some x → l ≠ [] → x.block < N := by
  have hR := h.lt
  obtain ⟨hN, ab', lb', cb', h⟩ := h
  intro x e hl
  have c1 := h.cell
  rw [trunc_heap w hR, k.cell] at c1
  simp only [Option.some.injEq, Obj.cells.injEq] at c1
  have c2 := congrArg (fun x : Array Value => x[0]?) c1.1
  simp at c2
  obtain ⟨e1, e2, e3⟩ := c2
  obtain ⟨a', cap', hv, hy, hn, hc⟩ := h.bytes
  rcases hc with h0 | ⟨b', off', ha, hc⟩
  · exact absurd h0 hl
  · injection hv with f1 _ _
    rw [← e1, e, ha] at f1
    injection f1 with f1
    subst f1
    have := block_lt_of_cell (hc 0 (List.length_pos_iff.2 hl))
    rwa [trunc_size hN] at this
theorem rt_below {N : Nat} {w w' : World} {t R : Nat} {l : List Int} (h : RT N w t R l) (b : Below w.heap.size w w') : RT N w' t R l :=
  h.keep (Nat.le_trans h.1 b.size) (fun k hk => b.block k (Nat.lt_of_lt_of_le hk h.1))
set_option maxRecDepth 100000 in
set_option maxHeartbeats 3200000 in
theorem pnext_same (R lb cb : Nat) (ab : Option Addr) (l : List Int) (n : Int) (w : World) (h : RR w 110 R ab lb cb l) (hn : n ≤ 9223372036854775807) :
    Calls Tryd.prog 66 #[.pointer (some ⟨R, 0, none⟩), .int .i64 n] w fun e w' => (∃ v, e = .returned (.tuple #[v, .int .i64 (rawA n l).2.1]) ∧ BS w' v (rawA n l).1) ∧ (∃ ab' lb' cb', SameB ab ab' ∧ RR w' 110 R ab' lb' cb' (rawA n l).2.2) ∧ Only R w w' := by
  have H := Lib.hid h
  have c0 := h.at
  have hl := h.len
  have hbig := h.big
  have hcap := h.cap
  by_cases h0 : n < 0
  · rw [show rawA n l = ([], 2, l) by unfold rawA; rw [if_pos h0]]
    clear h hl hbig hcap
    go_enter Tryd.func66, Tryd.ntmps66
    go_wp2_with fail
    go_ret2
    exact ⟨⟨_, rfl, bs_nil _⟩, ⟨_, _, _, SameB.refl _, H.out⟩, Only.refl _ _⟩
  · obtain ⟨m, rfl⟩ : ∃ m : Nat, n = (m : Int) := ⟨n.toNat, by omega⟩
    have m0 : (0 : Int) ≤ (m : Int) := by omega
    have lI : (lb : Int) ≤ 140737488351232 := by omega
    by_cases h1 : lb < m
    · rw [show rawA (m : Int) l = ([], 3, l) by unfold rawA; rw [if_neg (by omega), if_pos (by omega)]]
      have h1b : decide (lb < m) = true := by simp [h1]
      have h1c : (lb : Int) < (m : Int) := by omega
      clear h hl hbig hcap h0 h1
      go_enter Tryd.func66, Tryd.ntmps66
      go_wp2_with fail
      go_ret2
      exact ⟨⟨_, rfl, bs_nil _⟩, ⟨_, _, _, SameB.refl _, H.out⟩, Only.refl _ _⟩
    · rw [show rawA (m : Int) l = (l.take m, 0, l.drop m) by unfold rawA; rw [if_neg (by omega), if_neg (by omega)]; rfl]
      have h1b : decide (lb < m) = false := by simp; omega
      obtain ⟨a1, _, _, e1, B1⟩ := slice_cut w ab lb cb 0 m l h.bytes hl (Nat.zero_le _) (by omega) hcap
      obtain ⟨a2, _, e2, _, B2, S2⟩ := slice_cut_s w ab lb cb m lb l h.bytes hl (by omega) (Nat.le_refl _) hcap
      have e1 := e1 rfl
      have e2 := e2 rfl
      simp only [Nat.sub_zero] at e1 B1
      have f0 := frozen_of_row w R 0 _ _ h.cell
      have hO : Only R w (w.setCell ⟨R, 0, none⟩ (.slice a2 (lb - m) (cb - m))) := (Only.refl _ _).setCell _ _
      have HO := Lib.hid hO
      have HB1 := Lib.hid (show BS (w.setCell ⟨R, 0, none⟩ (.slice a2 (lb - m) (cb - m))) (.slice a1 m cb) (l.take m) from by have q := B1.only h.cell hO; simpa using q)
      have HRR := Lib.hid (show RR (w.setCell ⟨R, 0, none⟩ (.slice a2 (lb - m) (cb - m))) 110 R a2 (lb - m) (cb - m) (l.drop m) from
        ⟨heap_setCell_same _ _ _ _ _ _ h.cell, by have q := B2.only h.cell hO; rw [List.take_of_length_le (by rw [List.length_drop]; omega)] at q; exact q, by rw [List.length_drop]; omega, by omega, by omega⟩)
      have HS2 := Lib.hid S2
      clear h hl hbig hcap h0 h1 B1 B2 hO S2
      go_enter Tryd.func66, Tryd.ntmps66
      go_wp2_with fail
      go_ret2
      exact ⟨⟨_, rfl, HB1.out⟩, by first | exact ⟨_, _, _, HS2.out, HRR.out⟩ | exact ⟨_, HS2.out, _, _, HRR.out⟩, HO.out⟩
set_option maxRecDepth 100000 in
set_option maxHeartbeats 3200000 in
theorem pnum_same (R lb cb : Nat) (ab : Option Addr) (l : List Int) (n : Int) (w : World) (h : RR w 110 R ab lb cb l) (hn : n ≤ 9223372036854775807) :
    Calls Tryd.prog 68 #[.pointer (some ⟨R, 0, none⟩), .int .i64 n] w fun e w' => e = .returned (.tuple #[.int .u64 (numA n l).1, .int .i64 (numA n l).2.1]) ∧ (∃ ab' lb' cb', SameB ab ab' ∧ RR w' 110 R ab' lb' cb' (numA n l).2.2) ∧ Only R w w' := by
  have H := Lib.hid h
  by_cases h1 : 8 < n
  · rw [show numA n l = (0, 2, l) by unfold numA; rw [if_pos (.inr h1)]]
    clear h
    go_enter Tryd.func68, Tryd.ntmps68
    go_wp2_with fail
    go_ret2
    exact ⟨rfl, ⟨_, _, _, SameB.refl _, H.out⟩, Only.refl _ _⟩
  · have HR := Lib.hid (pnext_same R lb cb ab l n w h hn)
    have hs := rawA_short n l (by omega)
    have h11 : n ≤ 8 := by omega
    have hE : ∃ er, (rawA n l).2.1 = er ∧ (er ≠ 0 → (rawA n l).2.1 = er ∧ numA n l = (0, er, (rawA n l).2.2)) ∧ (er = 0 → numA n l = (num (rawA n l).1, 0, (rawA n l).2.2)) := by
      refine ⟨_, rfl, fun hne => ⟨rfl, ?_⟩, fun he => ?_⟩
      · by_cases h0 : n < 0
        · unfold numA rawA; rw [if_pos (.inl h0), if_pos h0]
        · unfold numA
          rw [if_neg (by omega)]
          unfold rawA at hne ⊢
          rw [if_neg h0] at hne ⊢
          split
          · rfl
          · rename_i hc; rw [if_neg hc] at hne; exact absurd rfl hne
      · by_cases h0 : n < 0
        · unfold rawA at he; rw [if_pos h0] at he; simp at he
        · unfold numA
          rw [if_neg (by omega), he]
    obtain ⟨er, her, hA, hB⟩ := hE
    have HS := Lib.hid hs
    generalize rawA n l = Q at *
    obtain ⟨q1, q2, q3⟩ := Q
    dsimp only at her
    subst her
    by_cases h0 : q2 = 0
    · subst h0
      rw [hB rfl]
      clear h h1 hs hA hB
      go_enter Tryd.func68, Tryd.ntmps68
      go_wp2_with fail
      refine HR.out.mono ?_
      rintro e w1 ⟨⟨v, rfl, hv⟩, hr, hO⟩
      have HN := Lib.hid (get_ok w1 v q1 hv HS.out)
      have HRR := Lib.hid hr
      have HO := Lib.hid hO
      clear hv hr hO HR
      go_wp2_with fail
      refine HN.out.mono ?_
      rintro e w2 ⟨rfl, rfl⟩
      go_wp2_with fail
      go_ret2
      exact ⟨rfl, HRR.out, HO.out⟩
    · rw [(hA h0).2]
      have hnb : (q2 != 0) = true := by simp [h0]
      clear h h1 hs hA hB
      go_enter Tryd.func68, Tryd.ntmps68
      go_wp2_with fail
      refine HR.out.mono ?_
      rintro e w1 ⟨⟨v, rfl, hv⟩, hr, hO⟩
      have HRR := Lib.hid hr
      have HO := Lib.hid hO
      clear hv hr hO HR
      go_wp2_with fail
      go_ret2
      exact ⟨rfl, HRR.out, HO.out⟩
set_option maxRecDepth 100000 in
set_option maxHeartbeats 3200000 in
theorem pget_short_t (R lb cb : Nat) (ab : Option Addr) (l : List Int) (N : Nat) (w : World) (hT : RT N w 110 R l) (h : RR w 110 R ab lb cb l) (hs : l.length < 44) :
    Calls Tryd.prog 46 #[.pointer (some ⟨R, 0, none⟩)] w fun e w' => e = .returned (.tuple #[.agg (ptrRow zeroPtr).toArray, .int .i64 3]) ∧ RT N w' 110 R l ∧ Chg R w w' := by
  have HT0 := Lib.hid hT
  have HNW := Lib.hid hT.1
  have HBK := Lib.hid (rt_block hT h)
  have hb := (Below.refl w.heap.size w).alloc (Nat.le_refl _) (.cells (ptrRow zeroPtr).toArray 28)
  have hA := heap_alloc_new w (.cells (ptrRow zeroPtr).toArray 28)
  have h1 := h.below hb
  have HN := Lib.hid (pleft_any R lb cb ab l _ h1)
  have H0 := Lib.hid h
  have hz := zero_ptr
  have hbn := build_none
  have SE := Lib.hid (size_ptrA zeroPtr)
  have SO := Lib.hid (ptrRow_one zeroPtr)
  have HB := Lib.hid hb
  have HA := Lib.hid hA
  have hlt : decide ((l.length : Int) < 44) = true := by simp; omega
  clear h hT hb hA h1 hs
  generalize (ptrRow zeroPtr).toArray = ZR at *
  go_enter Tryd.func46, Tryd.ntmps46
  go_wp2_with fail
  refine HN.out.mono ?_
  rintro e w2 ⟨rfl, rfl⟩
  go_wp2_with (first
    | (with_reducible refine wpList_store_row (o := ⟨none, .store _ (.tmp 2) _, _, _, _, _⟩) rfl 28 _ _ rfl w.heap.size ZR rfl rfl 28 ZR HA.out SE.out rfl SO.out ?_))
  have h5 : Below w.heap.size w ((w.alloc (.cells ZR 28)).setRow w.heap.size ZR) := ybelow_row HB.out (Nat.le_refl _) _
  refine bodyPost_ret (v := .tuple #[.agg ZR, .int .i64 3]) (results_cell_two Tryd.results46 _ _ w.heap.size 28 ZR (0, 0) _ rfl (setRow_heap _ w.heap.size _ ZR _ _ HA.out) Tryd.underlying28 rfl SE.out _ (by simp)) rfl ⟨rfl, rt_below HT0.out (h5), Chg.of_below h5⟩
set_option maxRecDepth 100000 in
set_option maxHeartbeats 3200000 in
theorem pget_ok_t (R lb cb : Nat) (ab : Option Addr) (l : List Int) (N : Nat) (w : World) (hT : RT N w 110 R l) (h : RR w 110 R ab lb cb l) (hs : 44 ≤ l.length) :
    Calls Tryd.prog 46 #[.pointer (some ⟨R, 0, none⟩)] w fun e w' => e = .returned (.tuple #[.agg (ptrRow (ptrOf l)).toArray, .int .i64 0]) ∧ RT N w' 110 R (l.drop 44) ∧ Chg R w w' := by
  have HT0 := Lib.hid hT
  have HNW := Lib.hid hT.1
  have HBK := Lib.hid (rt_block hT h)
  have hb := (Below.refl w.heap.size w).alloc (Nat.le_refl _) (.cells (ptrRow zeroPtr).toArray 28)
  have hA := heap_alloc_new w (.cells (ptrRow zeroPtr).toArray 28)
  have hsz : (w.alloc (.cells (ptrRow zeroPtr).toArray 28)).heap.size = w.heap.size + 1 := by simp
  have h1 := h.below hb
  have hr1 := hT.keep (w' := w.alloc (.cells (ptrRow zeroPtr).toArray 28)) (by have := hT.1; omega) (fun k hk => hb.block k (Nat.lt_of_lt_of_le hk hT.1))
  have hby := h.bytes.byt
  obtain ⟨p4, p8, p32⟩ := ptrOf_parts l hs hby
  have HN := Lib.hid (pleft_any R lb cb ab l _ h1)
  have HN1 := Lib.hid (pnum_t _ R l 4 _ hr1 (by omega))
  rw [show numA 4 l = (num (l.take 4), 0, l.drop 4) from numA_in8 4 l (by omega) (by omega), p4] at HN1
  have HM2 := Lib.hid (show numA 8 (l.drop 4) = ((ptrOf l).bi, 0, l.drop 12) by
    rw [show numA 8 (l.drop 4) = _ from numA_in8 8 (l.drop 4) (by rw [List.length_drop]; omega) (by omega), p8, List.drop_drop])
  have HM3 := Lib.hid (show hashA (l.drop 12) = ((ptrOf l).su, 0, l.drop 44) by
    unfold hashA
    rw [if_neg (by rw [List.length_drop]; omega), p32, List.drop_drop])
  have hz := zero_ptr
  have hzh := zero_hash7
  have SE := Lib.hid (size_ptrA (ptrOf l))
  have SO := Lib.hid (ptrRow_one (ptrOf l))
  have SL := Lib.hid (show (ptrRow zeroPtr).toArray.size = (ptrRow (ptrOf l)).toArray.size by simp [ptrRow_length])
  have HBD := Lib.hid (build_ptr (ptrOf l))
  have SH := Lib.hid (size_hash7 (ptrOf l).su (ptrOf l).s0.1)
  have SHO := Lib.hid (i8s_one (ptrOf l).su)
  have SHL := Lib.hid (show (i8s (List.replicate 32 0)).size = (i8s (ptrOf l).su).size by rw [i8s_size, i8s_size, (ptrOf l).s0.1]; simp)
  have hwr : IntKind.u32.wrap (ptrOf l).ad = (ptrOf l).ad := IntWalk.u32_in _ (by have := (ptrOf l).a0; omega)
  have HRl := Lib.hid (show R < w.heap.size from (Array.getElem?_eq_some_iff.1 h.cell).1)
  have HB := Lib.hid hb
  have HA := Lib.hid hA
  have HSZ := Lib.hid hsz
  have hlt : decide ((l.length : Int) < 44) = false := by simp; omega
  clear h hT hb hA h1 hs hsz hby p4 p8 p32 hr1
  generalize (ptrRow zeroPtr).toArray = ZR at *
  generalize (ptrRow (ptrOf l)).toArray = QR at *
  generalize (ptrOf l).ad = ad at *
  generalize (ptrOf l).bi = bi at *
  generalize (ptrOf l).su = su at *
  generalize i8s (List.replicate 32 0) = ZH at *
  generalize hSU : i8s su = SU at *
  have HSU := Lib.hid hSU
  clear hSU
  generalize hW1 : w.alloc (.cells ZR 28) = w1 at *
  go_enter Tryd.func46, Tryd.ntmps46
  go_upto_region 1 with fail
  clear hW1 hz
  go_wp2_with fail
  refine HN.out.mono ?_
  rintro e w2 ⟨rfl, rfl⟩
  clear HN
  go_wp2_with fail
  refine HN1.out.mono ?_
  rintro e w2 ⟨rfl, r2, O2⟩
  have HN2 := Lib.hid (pnum_t _ R _ 8 w2 r2 (by omega))
  rw [HM2.out] at HN2
  have HA2 := Lib.hid ((O2.rest w.heap.size (by have := HRl.out; omega)).trans HA.out)
  have C2 := Lib.hid ((Chg.of_below HB.out).trans (Chg.of_only O2))
  have SZ2 := Lib.hid (show w2.heap.size = w.heap.size + 1 by rw [O2.size]; exact HSZ.out)
  clear r2 O2 HN1 HM2 HA HB hlt
  go_wp2_with fail
  refine HN2.out.mono ?_
  rintro e w3 ⟨rfl, r3, O3⟩
  have HN3 := Lib.hid (phash_t _ R _ w3 r3)
  rw [HM3.out] at HN3
  have HA3 := Lib.hid ((O3.rest w.heap.size (by have := HRl.out; omega)).trans HA2.out)
  have C3 := Lib.hid (C2.out.trans (Chg.of_only O3))
  have SZ3 := Lib.hid (show w3.heap.size = w.heap.size + 1 by rw [O3.size]; exact SZ2.out)
  clear r3 O3 HN2 HM3 HA2 C2
  go_wp2_with fail
  refine HN3.out.mono ?_
  rintro e w4 ⟨rfl, r4, O4⟩
  have HA4 := Lib.hid ((O4.block w.heap.size (by have := SZ3.out; omega) (by have := HRl.out; omega)).trans HA3.out)
  have C4 := Lib.hid (C3.out.trans O4)
  have HR4 := Lib.hid r4
  have SZ4 := Lib.hid (show w.heap.size + 1 ≤ w4.heap.size by have := O4.size; have := SZ3.out; omega)
  clear r4 O4 HN3 HA3 C3
  rw [HSU.out]
  have HH := Lib.hid (heap_alloc_new w4 (.cells ZH 26))
  go_upto_region 8 with (first
    | (with_reducible refine wpList_store_row (o := ⟨none, .store _ (.tmp 8) _, _, _, _, _⟩) rfl 26 _ _ rfl w4.heap.size SU rfl rfl 26 ZH HH.out SH.out SHL.out SHO.out ?_))
  have H5 := Lib.hid (setRow_heap (w4.alloc (.cells ZH 26)) w4.heap.size _ SU _ _ HH.out)
  have hb5 : Below w4.heap.size w4 ((w4.alloc (.cells ZH 26)).setRow w4.heap.size SU) := ybelow_row ((Below.refl w4.heap.size w4).alloc (Nat.le_refl _) _) (Nat.le_refl _) _
  have HA5 := Lib.hid ((hb5.block w.heap.size (by have := SZ4.out; omega)).trans HA4.out)
  have HB5 := Lib.hid hb5
  generalize (w4.alloc (.cells ZH 26)).setRow w4.heap.size SU = w5 at *
  clear hb5 HH HA4 hzh
  go_wp2_with (first
    | (with_reducible refine wpList_load_row (o := ⟨some 35, _, _, _, _, _⟩) rfl 26 _ rfl w4.heap.size rfl 26 SU (0, 0) _ H5.out Tryd.underlying26 rfl SH.out ?_)
    | (with_reducible refine wpList_build_run (o := ⟨some 36, _, _, _, _, _⟩) rfl 28 _ rfl #[(0, .int .u32 ad), (1, .int .u64 bi), (2, .agg SU)] (by simp [Act.eval, Act.put]) (.agg QR) (HBD.out _) ?_)
    | (with_reducible refine wpList_store_row (o := ⟨none, .store _ (.tmp 2) _, _, _, _, _⟩) rfl 28 _ _ rfl w.heap.size QR rfl rfl 28 ZR HA5.out SE.out SL.out SO.out ?_))
  have hb6 : Below w.heap.size w4 (w5.setRow w.heap.size QR) := ybelow_row (HB5.out.mono (by have := SZ4.out; omega)) (Nat.le_refl _) _
  refine bodyPost_ret (v := .tuple #[.agg QR, .int .i64 0]) (results_cell_two Tryd.results46 _ _ w.heap.size 28 QR (0, 0) _ rfl (setRow_heap _ w.heap.size _ QR _ _ HA5.out) Tryd.underlying28 rfl SE.out _ (by simp)) rfl ⟨rfl, ?_, ?_⟩
  · exact (HR4.out.keep (Nat.le_trans (by have := SZ4.out; have := HNW.out; omega) hb6.size) (fun k hk => hb6.block k (Nat.lt_of_lt_of_le hk HNW.out)))
  · exact ⟨hb6.os.trans C4.out.os, hb6.tape.trans C4.out.tape, hb6.output.trans C4.out.output, Nat.le_trans C4.out.size (Nat.le_trans HB5.out.size (by simp)), fun k hk hne => (hb6.block k hk).trans (C4.out.block k hk hne)⟩
theorem pget_t (N R : Nat) (l : List Int) (w : World) (h : RT N w 110 R l) :
    Calls Tryd.prog 46 #[.pointer (some ⟨R, 0, none⟩)] w fun e w' => e = .returned (.tuple #[.agg (ptrRow (getA l).1).toArray, .int .i64 (getA l).2.1]) ∧ RT N w' 110 R (getA l).2.2 ∧ Chg R w w' := by
  obtain ⟨ab, lb, cb, hr⟩ := h.rr
  by_cases hs : l.length < 44
  · rw [show getA l = (zeroPtr, 3, l) by unfold getA; rw [if_pos hs]]
    exact pget_short_t R lb cb ab l N w h hr hs
  · rw [show getA l = (ptrOf l, 0, l.drop 44) by unfold getA; rw [if_neg hs]]
    exact pget_ok_t R lb cb ab l N w h hr (by omega)
set_option maxRecDepth 100000 in
set_option maxHeartbeats 3200000 in
theorem rgetp_short_t (R lb cb : Nat) (ab : Option Addr) (l : List Int) (N : Nat) (w : World) (hT : RT N w 63 R l) (h : RR w 63 R ab lb cb l) (hs : l.length < 44) :
    Calls Tryd.prog 32 #[.pointer (some ⟨R, 0, none⟩)] w fun e w' => e = .returned (.tuple #[.agg (ptrRow zeroPtr).toArray, .int .i64 3]) ∧ RT N w' 63 R l ∧ Chg R w w' := by
  have HT0 := Lib.hid hT
  have HNW := Lib.hid hT.1
  have HBK := Lib.hid (rt_block hT h)
  obtain ⟨hb2, hs2, hA1, hA2⟩ := two_ptrs w (ptrRow zeroPtr).toArray
  have c0 := (h.below hb2).at
  have H0 := Lib.hid h
  have hz := zero_ptr
  have SE := Lib.hid (size_ptrA zeroPtr)
  have SO := Lib.hid (ptrRow_one zeroPtr)
  have HB := Lib.hid hb2
  have HA1 := Lib.hid hA1
  have HA2 := Lib.hid hA2
  have hlt : decide ((lb : Int) < 44) = true := by have := h.len; simp; omega
  have hlt2 : decide (lb < 44) = true := by have := h.len; simp; omega
  clear h hT hb2 hA1 hA2 hs hs2
  generalize (ptrRow zeroPtr).toArray = ZR at *
  generalize hW2 : (w.alloc (.cells ZR 28)).alloc (.cells ZR 28) = w2 at *
  go_enter Tryd.func32, Tryd.ntmps32
  go_upto_region 2 with fail
  try rw [hW2]
  clear hW2 hz
  go_wp2_with (first
    | (with_reducible refine wpList_load_row (o := ⟨some 13, _, _, _, _, _⟩) rfl 28 _ rfl (w.heap.size + 1) rfl 28 ZR (0, 0) _ HA2.out Tryd.underlying28 rfl SE.out ?_)
    | (with_reducible refine wpList_store_row (o := ⟨none, .store _ (.tmp 2) _, _, _, _, _⟩) rfl 28 _ _ rfl w.heap.size ZR rfl rfl 28 ZR HA1.out SE.out rfl SO.out ?_))
  have h5 : Below w.heap.size w (w2.setRow w.heap.size ZR) := ybelow_row HB.out (Nat.le_refl _) _
  refine bodyPost_ret (v := .tuple #[.agg ZR, .int .i64 3]) (results_cell_two Tryd.results32 _ _ w.heap.size 28 ZR (0, 0) _ rfl (setRow_heap _ w.heap.size _ ZR _ _ HA1.out) Tryd.underlying28 rfl SE.out _ (by simp)) rfl ⟨rfl, rt_below HT0.out (h5), Chg.of_below h5⟩
set_option maxRecDepth 100000 in
set_option maxHeartbeats 3200000 in
theorem rgetp_ok_t (R lb cb : Nat) (ab : Option Addr) (l : List Int) (N : Nat) (w : World) (hT : RT N w 63 R l) (h : RR w 63 R ab lb cb l) (hs : 44 ≤ l.length) :
    Calls Tryd.prog 32 #[.pointer (some ⟨R, 0, none⟩)] w fun e w' => e = .returned (.tuple #[.agg (ptrRow (ptrOf l)).toArray, .int .i64 0]) ∧ RT N w' 63 R (l.drop 44) ∧ Chg R w w' := by
  have HT0 := Lib.hid hT
  have HNW := Lib.hid hT.1
  have HBK := Lib.hid (rt_block hT h)
  obtain ⟨hb2, hs2, hA1, hA2⟩ := two_ptrs w (ptrRow zeroPtr).toArray
  have c0 := (h.below hb2).at
  have hr1 := hT.keep (w' := (w.alloc (.cells (ptrRow zeroPtr).toArray 28)).alloc (.cells (ptrRow zeroPtr).toArray 28)) (by have := hT.1; omega) (fun k hk => hb2.block k (Nat.lt_of_lt_of_le hk hT.1))
  have hby := h.bytes.byt
  obtain ⟨p4, p8, p32⟩ := ptrOf_parts l hs hby
  have HN1 := Lib.hid (rnum_t _ R l 4 _ hr1 (by omega))
  rw [show numA 4 l = (num (l.take 4), 0, l.drop 4) from numA_in8 4 l (by omega) (by omega), p4] at HN1
  have HM2 := Lib.hid (show numA 8 (l.drop 4) = ((ptrOf l).bi, 0, l.drop 12) by
    rw [show numA 8 (l.drop 4) = _ from numA_in8 8 (l.drop 4) (by rw [List.length_drop]; omega) (by omega), p8, List.drop_drop])
  have HM3 := Lib.hid (show hashA (l.drop 12) = ((ptrOf l).su, 0, l.drop 44) by
    unfold hashA
    rw [if_neg (by rw [List.length_drop]; omega), p32, List.drop_drop])
  have hz := zero_ptr
  have SE := Lib.hid (size_ptrA (ptrOf l))
  have SO := Lib.hid (ptrRow_one (ptrOf l))
  have SL := Lib.hid (show (ptrRow zeroPtr).toArray.size = (ptrRow (ptrOf l)).toArray.size by simp [ptrRow_length])
  have SH := Lib.hid (size_hash7 (ptrOf l).su (ptrOf l).s0.1)
  have SHO := Lib.hid (i8s_one (ptrOf l).su)
  have HPR := Lib.hid (show prow (ptrOf l).ad (ptrOf l).bi (ptrOf l).su = ptrRow (ptrOf l) from rfl)
  have HQL := Lib.hid (ptrOf l).s0.1
  have hwr : IntKind.u32.wrap (ptrOf l).ad = (ptrOf l).ad := IntWalk.u32_in _ (by have := (ptrOf l).a0; omega)
  have HRl := Lib.hid (show R < w.heap.size from (Array.getElem?_eq_some_iff.1 h.cell).1)
  have HB := Lib.hid hb2
  have HA1 := Lib.hid hA1
  have HA2 := Lib.hid hA2
  have HSZ := Lib.hid hs2
  have HZR := Lib.hid (show (ptrRow zeroPtr).toArray = (prow 0 0 (List.replicate 32 0)).toArray from rfl)
  have hlt : decide ((lb : Int) < 44) = false := by have := h.len; simp; omega
  have hlt2 : decide (lb < 44) = false := by have := h.len; simp; omega
  clear h hT hb2 hA1 hA2 hs hs2 hby p4 p8 p32 hr1
  generalize (ptrRow zeroPtr).toArray = ZR at *
  generalize hQR : (ptrRow (ptrOf l)).toArray = QR at *
  generalize (ptrOf l).ad = ad at *
  generalize (ptrOf l).bi = bi at *
  generalize (ptrOf l).su = su at *
  have HQR := Lib.hid (show (prow ad bi su).toArray = QR by rw [HPR.out]; exact hQR)
  clear hQR HPR
  generalize hW2 : (w.alloc (.cells ZR 28)).alloc (.cells ZR 28) = w2 at *
  go_enter Tryd.func32, Tryd.ntmps32
  go_upto_region 2 with fail
  try rw [hW2]
  clear hW2 hz
  go_wp2_with fail
  refine HN1.out.mono ?_
  rintro e w3 ⟨rfl, r3, O3⟩
  have HN2 := Lib.hid (fun w3' (q : RT N w3' 63 R (List.drop 4 l)) => rnum_t _ R _ 8 w3' q (by omega))
  rw [HM2.out] at HN2
  have HA13 := Lib.hid ((O3.rest w.heap.size (by have := HRl.out; omega)).trans HA1.out)
  have hA23 := (O3.rest (w.heap.size + 1) (by have := HRl.out; omega)).trans HA2.out
  rw [HZR.out] at hA23
  have HA23 := Lib.hid hA23
  have C3 := Lib.hid ((Chg.of_below HB.out).trans (Chg.of_only O3))
  have SZ3 := Lib.hid (show w3.heap.size = w.heap.size + 2 by rw [O3.size]; exact HSZ.out)
  have R3 := Lib.hid r3
  have d0 : w3.cell? ⟨w.heap.size + 1, 0, none⟩ = some (.int .u32 0) := cell_of_row _ _ _ _ _ _ hA23
  have f0 : w3.frozen? ⟨w.heap.size + 1, 0, none⟩ = false := frozen_of_row _ _ _ _ _ hA23
  clear r3 O3 HN1 HM2 HA1 HA2 HB hlt hlt2 c0 hA23
  go_upto_region 6 with fail
  have hA4 := heap_setCell_same w3 (w.heap.size + 1) 0 _ _ (.int .u32 ad) HA23.out
  rw [show (prow 0 0 (List.replicate 32 0)).toArray.setIfInBounds 0 (.int .u32 ad) = (prow ad 0 (List.replicate 32 0)).toArray by simp [prow]] at hA4
  have hb4 : Below (w.heap.size + 1) w3 (w3.setCell ⟨w.heap.size + 1, 0, none⟩ (.int .u32 ad)) := ((Below.refl w3.heap.size w3).mono (by have := SZ3.out; omega)).setCell (show w.heap.size + 1 ≤ (⟨w.heap.size + 1, 0, none⟩ : Addr).block from Nat.le_refl _) _
  have hs4 : (w3.setCell ⟨w.heap.size + 1, 0, none⟩ (.int .u32 ad)).heap.size = w.heap.size + 2 := by rw [← SZ3.out]; simp
  generalize w3.setCell ⟨w.heap.size + 1, 0, none⟩ (.int .u32 ad) = w4 at *
  have HN2' := Lib.hid (HN2.out w4 (R3.out.keep (by have := HNW.out; omega) (fun k hk => hb4.block k (by have := HNW.out; omega))))
  have HA14 := Lib.hid ((hb4.block w.heap.size (by omega)).trans HA13.out)
  have HA24 := Lib.hid hA4
  have C4 := Lib.hid (chg_below C3.out (Nat.le_succ _) hb4)
  have SZ4 := Lib.hid hs4
  clear hA4 hb4 hs4 HN2 HA13 HA23 C3 SZ3 R3 d0 f0 hwr
  go_wp2_with fail
  refine HN2'.out.mono ?_
  rintro e w5 ⟨rfl, r5, O5⟩
  have HA15 := Lib.hid ((O5.rest w.heap.size (by have := HRl.out; omega)).trans HA14.out)
  have hA25 := (O5.rest (w.heap.size + 1) (by have := HRl.out; omega)).trans HA24.out
  have HA25 := Lib.hid hA25
  have C5 := Lib.hid (C4.out.trans (Chg.of_only O5))
  have SZ5 := Lib.hid (show w5.heap.size = w.heap.size + 2 by rw [O5.size]; exact SZ4.out)
  have R5 := Lib.hid r5
  have d1 : w5.cell? ⟨w.heap.size + 1, 1, none⟩ = some (.int .u64 0) := cell_of_row _ _ _ _ _ _ hA25
  have f1 : w5.frozen? ⟨w.heap.size + 1, 1, none⟩ = false := frozen_of_row _ _ _ _ _ hA25
  clear r5 O5 HN2' HA14 HA24 C4 SZ4 hA25
  go_upto_region 7 with fail
  have hA6 := heap_setCell_same w5 (w.heap.size + 1) 1 _ _ (.int .u64 bi) HA25.out
  rw [show (prow ad 0 (List.replicate 32 0)).toArray.setIfInBounds 1 (.int .u64 bi) = (prow ad bi (List.replicate 32 0)).toArray by simp [prow]] at hA6
  have hb6 : Below (w.heap.size + 1) w5 (w5.setCell ⟨w.heap.size + 1, 1, none⟩ (.int .u64 bi)) := ((Below.refl w5.heap.size w5).mono (by have := SZ5.out; omega)).setCell (show w.heap.size + 1 ≤ (⟨w.heap.size + 1, 1, none⟩ : Addr).block from Nat.le_refl _) _
  have hs6 : (w5.setCell ⟨w.heap.size + 1, 1, none⟩ (.int .u64 bi)).heap.size = w.heap.size + 2 := by rw [← SZ5.out]; simp
  generalize w5.setCell ⟨w.heap.size + 1, 1, none⟩ (.int .u64 bi) = w6 at *
  have HN3 := Lib.hid (rhash_t _ R _ w6 (R5.out.keep (by have := HNW.out; omega) (fun k hk => hb6.block k (by have := HNW.out; omega))))
  rw [HM3.out] at HN3
  have HA16 := Lib.hid ((hb6.block w.heap.size (by omega)).trans HA15.out)
  have HA26 := Lib.hid hA6
  have C6 := Lib.hid (chg_below C5.out (Nat.le_succ _) hb6)
  have SZ6 := Lib.hid hs6
  clear hA6 hb6 hs6 HA15 HA25 C5 SZ5 R5 d1 f1 HM3
  go_wp2_with fail
  refine HN3.out.mono ?_
  rintro e w7 ⟨rfl, r7, O7⟩
  have HA17 := Lib.hid ((O7.block w.heap.size (by have := SZ6.out; omega) (by have := HRl.out; omega)).trans HA16.out)
  have hA27 := (O7.block (w.heap.size + 1) (by have := SZ6.out; omega) (by have := HRl.out; omega)).trans HA26.out
  have C7 := Lib.hid (C6.out.trans O7)
  have SZ7 := Lib.hid (show w.heap.size + 2 ≤ w7.heap.size by have := O7.size; have := SZ6.out; omega)
  have R7 := Lib.hid r7
  have HTH := Lib.hid (show w7.there (w.heap.size + 1) 2 (i8s su).size from fun j hj => by
    rw [i8s_size, HQL.out] at hj
    refine ⟨?_, frozen_of_row _ _ _ _ _ hA27⟩
    rw [cell_of_row _ _ _ _ _ _ hA27]
    rw [List.getElem?_toArray, List.getElem?_eq_getElem (by simp [prow]; omega)]
    rfl)
  have H8 := Lib.hid (heap_putAt (w.heap.size + 1) 28 (i8s su).toList 2 w7 _ hA27 (by simp [prow, i8s, HQL.out]))
  have HP8 := Lib.hid (show (putAt (prow ad bi (List.replicate 32 0)) 2 (i8s su).toList).toArray = QR by
    rw [← HQR.out]
    have hl := HQL.out
    simp [putAt, prow, i8s, hl])
  clear r7 O7 HN3 HA16 HA26 C6 SZ6 hA27
  go_upto_region 8 with (first
    | (with_reducible refine wpList_store_mid (op := ⟨none, .store _ (.tmp 33) _, _, _, _, _⟩) rfl 26 _ _ rfl (w.heap.size + 1) 2 (i8s su) rfl rfl HTH.out SH.out SHO.out ?_))
  have hA8 := H8.out
  rw [HP8.out] at hA8
  have hb8 := below_sets (w.heap.size + 1) (i8s su).toList 2 w7 w7 (w.heap.size + 1) ((Below.refl w7.heap.size w7).mono (by have := SZ7.out; omega)) (Nat.le_refl _)
  generalize w7.setCells (w.heap.size + 1) 2 (i8s su).toList = w8 at *
  have HA18 := Lib.hid ((hb8.block w.heap.size (by omega)).trans HA17.out)
  have HA28 := Lib.hid hA8
  have C8 := Lib.hid (chg_below C7.out (Nat.le_succ _) hb8)
  have R8 := Lib.hid (R7.out.keep (w' := w8) (by have := HNW.out; have := hb8.size; have := SZ7.out; omega) (fun k hk => hb8.block k (by have := HNW.out; omega)))
  have SZ8 := Lib.hid (Nat.le_trans SZ7.out hb8.size)
  clear hA8 hb8 H8 HP8 HA17 C7 R7 SZ7 HTH
  go_wp2_with (first
    | (with_reducible refine wpList_load_row (o := ⟨some 34, _, _, _, _, _⟩) rfl 28 _ rfl (w.heap.size + 1) rfl 28 QR (0, 0) _ HA28.out Tryd.underlying28 rfl SE.out ?_)
    | (with_reducible refine wpList_store_row (o := ⟨none, .store _ (.tmp 2) _, _, _, _, _⟩) rfl 28 _ _ rfl w.heap.size QR rfl rfl 28 ZR HA18.out SE.out SL.out SO.out ?_))
  have hb9 : Below w.heap.size w8 (w8.setRow w.heap.size QR) := ybelow_row ((Below.refl w8.heap.size w8).mono (by have := SZ8.out; omega)) (Nat.le_refl _) _
  refine bodyPost_ret (v := .tuple #[.agg QR, .int .i64 0]) (results_cell_two Tryd.results32 _ _ w.heap.size 28 QR (0, 0) _ rfl (setRow_heap _ w.heap.size _ QR _ _ HA18.out) Tryd.underlying28 rfl SE.out _ (by simp)) rfl ⟨rfl, ?_, ?_⟩
  · exact (R8.out.keep (Nat.le_trans (by have := SZ8.out; have := HNW.out; omega) hb9.size) (fun k hk => hb9.block k (Nat.lt_of_lt_of_le hk HNW.out)))
  · exact chg_below C8.out (Nat.le_refl _) hb9
theorem rgetp_t (N R : Nat) (l : List Int) (w : World) (h : RT N w 63 R l) :
    Calls Tryd.prog 32 #[.pointer (some ⟨R, 0, none⟩)] w fun e w' => e = .returned (.tuple #[.agg (ptrRow (getA l).1).toArray, .int .i64 (getA l).2.1]) ∧ RT N w' 63 R (getA l).2.2 ∧ Chg R w w' := by
  obtain ⟨ab, lb, cb, hr⟩ := h.rr
  by_cases hs : l.length < 44
  · rw [show getA l = (zeroPtr, 3, l) by unfold getA; rw [if_pos hs]]
    exact rgetp_short_t R lb cb ab l N w h hr hs
  · rw [show getA l = (ptrOf l, 0, l.drop 44) by unfold getA; rw [if_neg hs]]
    exact rgetp_ok_t R lb cb ab l N w h hr (by omega)
end Go.Proofs.YtocdjaenhllemaaDoor
