/-
  Datasets: the library's Grow and Concat; the program's without and with. (Written by tools/XIe.make.py.)
-/
import Derived.Test.YtkafabcklohlmaaId
namespace Go.Proofs.Ytkafabcklohlmaa
set_option maxRecDepth 4000
set_option linter.unusedVariables false
open Go.ChangeShapes Go.WideShapes Go.ChangeAt Go.RowKit

theorem run_asInt15 (m : Int) (w : World) : (asInt (.int .i64 m)).run Try.prog w = .ok m w := by rfl
theorem grow_row (w : World) (m : Nat) (h0 : 0 < m) (h1 : m ≤ 100000) (ty : TypeId) :
    ∃ cap cur, (Builtin.append_ #[22, 3] ty #[.slice none 0 0, .int .i64 (m : Int)]).run Try.prog w = .ok (.slice (some ⟨w.heap.size, 0, none⟩) m cap) (w.drew.alloc (.cells cur 38)) ∧ m ≤ cap ∧ cap ≤ maxLen ∧ cur.size = cap * 37 := by
  obtain ⟨i0, hi, hz⟩ := Option.map_eq_some_iff.1 info_set
  simp only [Prod.mk.injEq] at hz
  obtain ⟨hz0, hz1, hz2⟩ := hz
  have hw : IntKind.i64.wrap (m : Int) = (m : Int) := IntWalk.i64_in _ (by omega)
  have hneg : ¬ ((m : Int) < 0) := by omega
  have hbig : ¬ ((281474976710656 : Int) < (m : Int) * 88) := by omega
  have hm : ¬ m = 0 := by omega
  have h63 : ¬ (9223372036854775807 < (m : Int)) := by omega
  have h48 : ¬ (281474976710656 < Builtin.nextslicecap m 0 * 88) := by rw [nextslicecap_zero (by omega)]; omega
  have hge := grownCap_ge w m 0 38
  have hcm : grownCap w m 0 38 ≤ maxLen := grownCap_le_maxLen w m 0 38 (by unfold maxLen; omega)
  have hzc : (Value.agg (setRow zeroSet).toArray).cells = (setRow zeroSet).toArray := rfl
  have hzl : (setRow zeroSet).toArray.size = 37 := by simp [setRow_length]
  refine ⟨grownCap w m 0 38, Builtin.zeroCells (setRow zeroSet).toArray m ++ Builtin.zeroCells (setRow zeroSet).toArray (grownCap w m 0 38 - m), ?_, hge, hcm, ?_⟩
  · simp [Builtin.append_, run_underlying Try.underlying22, run_underlying Try.underlying3, sizeOf, typeInfo, zeroValue, hi, hz0, hz1, hz2, run_asInt15, hw, hneg, hbig, hm, h63, h48, Question.forced, newRow, grownCap, run_firstCells_none, hzc]
    intro h
    omega
  · rw [Array.size_append, size_zeroCells, size_zeroCells, hzl, ← Nat.add_mul]
    congr 1
    omega
set_option maxRecDepth 100000 in
set_option maxHeartbeats 1600000 in
theorem grow15 (m : Nat) (h1 : m ≤ 100000) (w : World) :
    Calls Try.prog 84 #[.slice none 0 0, .int .i64 (m : Int)] w fun e w' => ∃ v, e = .returned v ∧ OWS w' w.heap.size v [] ∧ Below w.heap.size w w' := by
  by_cases h0 : m = 0
  · subst h0
    go_enter Try.func84, Try.ntmps84
    go_wp2_with fail
    go_ret
    exact ⟨_, rfl, OWS.nil _ _, Below.refl _ _⟩
  · obtain ⟨cap, cur, hr, hmc, hcm, hsz⟩ := grow_row w m (by omega) h1 22
    obtain ⟨i0, hi0, hs⟩ := Option.map_eq_some_iff.1 (show (Try.prog.info? 38).map (·.size) = some 37 by kernel_rfl)
    have hs1 : ∀ W', (Instr.slice 22 (.slice none 0 0) none (some (.int .i64 0)) none).run Try.prog W' = .ok (.slice none 0 0) W' := fun W' => by
      have b1 : (Instr.sliceBound (.int .i64 0) 0 .sliceAcap).run Try.prog W' = .ok 0 W' := ybound_ok 0 0 .sliceAcap (Nat.le_refl _) W'
      simp [Instr.slice, run_underlying Try.underlying22, Instr.sliceBounds, sizeOf, typeInfo, hi0, b1]
    have hs2 : ∀ W', (Instr.slice 22 (.slice (some ⟨w.heap.size, 0, none⟩) m cap) none (some (.int .i64 0)) none).run Try.prog W' = .ok (.slice (some ⟨w.heap.size, 0, none⟩) 0 cap) W' := fun W' => by
      have b1 : (Instr.sliceBound (.int .i64 0) cap .sliceAcap).run Try.prog W' = .ok 0 W' := ybound_ok 0 cap .sliceAcap (Nat.zero_le _) W'
      have hc0 : ¬ cap = 0 := by omega
      simp [Instr.slice, run_underlying Try.underlying22, Instr.sliceBounds, sizeOf, typeInfo, hi0, b1, hc0, Addr.add_mid]
    have HR := Lib.hid hr
    have HC := Lib.hid (And.intro hcm hsz)
    have mI : (0 : Int) < (m : Int) := by omega
    have m2 : (m : Int) ≤ 100000 := by omega
    clear hr hcm hsz hi0 hs h0 h1 hmc
    go_enter Try.func84, Try.ntmps84
    go_wp2_with (at_builtin; refine wpList_append_run (o := ⟨some 22, _, _, _, _, _⟩) rfl _ _ _ _ rfl _ _ _ _ rfl rfl HR.out ?_)
    go_ret
    refine ⟨_, rfl, ⟨rfl, .inr ⟨w.heap.size, cap, cur, rfl, Nat.le_refl _, heap_alloc_new w.drew _, Nat.zero_le _, HC.out.1, HC.out.2, rfl⟩⟩, (Below.refl _ w).drew.alloc (Nat.le_refl _) _⟩
theorem index_ss (b len cap i : Nat) (h : i < len) (W : World) : (Instr.indexAt 118 (.slice (some ⟨b, 0, none⟩) len cap) (.int .i64 (i : Int))).run Try.prog W = .ok (.pointer (some ⟨b, i, none⟩)) W := by
  obtain ⟨i0, hi, hs⟩ := Option.map_eq_some_iff.1 (show (Try.prog.info? 22).map (·.size) = some 1 by kernel_rfl)
  simp [Instr.indexAt, asIntOf, run_underlying Try.underlying118, sizeOf, typeInfo, hi, hs, h, Addr.add_mid]
theorem info_ls : (Try.prog.info? 22).map (fun i => (i.zero, i.size, i.bytes)) = some (some (.slice none 0 0), 1, 24) := by kernel_rfl
theorem lit_ss2 (a1 : Option Addr) (n1 c1 : Nat) (a2 : Option Addr) (n2 c2 : Nat) (W : World) : (Instr.buildSlice 118 2 #[(0, .slice a1 n1 c1), (1, .slice a2 n2 c2)]).run Try.prog W = .ok (.slice (some ⟨W.heap.size, 0, none⟩) 2 2) (W.alloc (.cells #[.slice a1 n1 c1, .slice a2 n2 c2] 22)) := by
  obtain ⟨i, hi, hz⟩ := Option.map_eq_some_iff.1 info_ls
  simp only [Prod.mk.injEq] at hz
  obtain ⟨h1, h2, h3⟩ := hz
  refine run_buildSlice W 118 22 2 _ #[.slice a1 n1 c1, .slice a2 n2 c2] i _ Try.underlying118 hi h1 (by rw [h2]; omega) (by rw [h2]; omega) ?_
  rw [h2]
  kernel_rfl
theorem lit_ss3 (a1 : Option Addr) (n1 c1 : Nat) (a2 : Option Addr) (n2 c2 : Nat) (a3 : Option Addr) (n3 c3 : Nat) (W : World) : (Instr.buildSlice 118 3 #[(0, .slice a1 n1 c1), (1, .slice a2 n2 c2), (2, .slice a3 n3 c3)]).run Try.prog W = .ok (.slice (some ⟨W.heap.size, 0, none⟩) 3 3) (W.alloc (.cells #[.slice a1 n1 c1, .slice a2 n2 c2, .slice a3 n3 c3] 22)) := by
  obtain ⟨i, hi, hz⟩ := Option.map_eq_some_iff.1 info_ls
  simp only [Prod.mk.injEq] at hz
  obtain ⟨h1, h2, h3⟩ := hz
  refine run_buildSlice W 118 22 3 _ #[.slice a1 n1 c1, .slice a2 n2 c2, .slice a3 n3 c3] i _ Try.underlying118 hi h1 (by rw [h2]; omega) (by rw [h2]; omega) ?_
  rw [h2]
  kernel_rfl
/-- Slices of datasets, one behind the other, as the cells of a block. -/
structure SSr (w : World) (b : Nat) (P : List Value) (L : List (List SetV)) : Prop where
  row : w.heap[b]? = some (.cells P.toArray 22 (0, 0))
  len : P.length = L.length
  at_ : ∀ (i : Nat) (p : Value) (l : List SetV), P[i]? = some p → L[i]? = some l → LS w p l
theorem flat_next {α : Type} {L : List (List α)} {i : Nat} {l : List α} (h : L[i]? = some l) : (L.take (i + 1)).flatten = (L.take i).flatten ++ l := by
  rw [List.take_add_one, h, List.flatten_append]
  simp
/-- How many there are in the first lists. -/
def flN (L : List (List SetV)) (i : Nat) : Nat := (L.take i).flatten.length
theorem flN_0 (L : List (List SetV)) : flN L 0 = 0 := rfl
theorem flat_le {α : Type} (L : List (List α)) (i : Nat) : (L.take i).flatten.length ≤ L.flatten.length := by
  conv => rhs; rw [← List.take_append_drop i L, List.flatten_append, List.length_append]
  omega
set_option maxRecDepth 100000 in
set_option maxHeartbeats 3200000 in
theorem concat15 (b : Nat) (P : List Value) (L : List (List SetV)) (W0 : World) (h : SSr W0 b P L) (hn : L.flatten.length ≤ 1000) (hl : P.length ≤ 10) :
    Calls Try.prog 76 #[.slice (some ⟨b, 0, none⟩) P.length P.length] W0 fun e w' => ∃ v, e = .returned v ∧ OWS w' W0.heap.size v L.flatten ∧ Below W0.heap.size W0 w' := by
  have HS := Lib.hid h
  obtain ⟨n, hk⟩ : ∃ n, P.length = n := ⟨_, rfl⟩
  have HN := Lib.hid hk
  have HM := Lib.hid hn
  rw [hk]
  have nI : (n : Int) ≤ 1000 := by omega
  have n0 : (0 : Int) ≤ (n : Int) := by omega
  have HGR := Lib.hid (fun (m : Nat) (h : m ≤ 100000) W => grow15 m h W)
  clear h hk hn hl
  go_enter Try.func76, Try.ntmps76
  go_wp2_with fail
  go_loopw [3, 5, 11] (fun v3 _ v11 wr => ∃ i : Nat, i ≤ n ∧ v11 = .int .i64 (i : Int) ∧ v3 = .int .i64 ((flN L i : Nat) : Int) ∧ W0 = wr) (fun _ _ v _ => n - (intOf v).toNat)
  case atStart => exact ⟨0, Nat.zero_le _, rfl, rfl, rfl⟩
  case round =>
    obtain ⟨i, hi, rfl, rfl, hw⟩ := hrel
    subst hw
    by_cases hlt : i < n
    · obtain ⟨p, hp⟩ : ∃ p, P[i]? = some p := ⟨_, List.getElem?_eq_getElem (by rw [HN.out]; exact hlt)⟩
      obtain ⟨l, hl⟩ : ∃ l, L[i]? = some l := ⟨_, List.getElem?_eq_getElem (by rw [← HS.out.len, HN.out]; exact hlt)⟩
      have hls := HS.out.at_ i p l hp hl
      obtain ⟨ap, cp, rfl, hcp, _⟩ := id hls
      have hix := index_ss b n n i hlt
      have HLT := Lib.hid hlt
      have iI : (i : Int) < (n : Int) := by omega
      have i0 : (0 : Int) ≤ (i : Int) := by omega
      have HNX := Lib.hid (flat_next hl)
      have c0 := cell_of_row _ b i _ _ _ HS.out.row
      rw [show P.toArray[i]? = some (.slice ap l.length cp) by simpa using hp] at c0
      have hle := flat_le L (i + 1)
      rw [HNX.out, List.length_append] at hle
      have HL2 := Lib.hid (show flN L (i + 1) = flN L i + l.length by unfold flN; rw [HNX.out, List.length_append])
      rw [show (L.take i).flatten.length = flN L i from rfl] at hle
      generalize flN L i = Z at *
      generalize l.length = y at *
      have zI : (Z : Int) + (y : Int) ≤ 1000 := by have := HM.out; omega
      have z0 : (0 : Int) ≤ (Z : Int) := by omega
      have y0 : (0 : Int) ≤ (y : Int) := by omega
      clear hi hlt hp hl hls hcp hle HNX
      go_wp2_with fail
      go_roundw
      case rel => exact ⟨i + 1, by have := HLT.out; omega, by go_num, by rw [HL2.out]; first | rfl | (congr 1; done) | (congr 1; omega), by first | rfl | exact trivial⟩
      case measure => simp [intOf]; have := HLT.out; omega
    · obtain rfl : n = i := by omega
      have HF := Lib.hid (show (L.take n).flatten = L.flatten by rw [List.take_of_length_le (by rw [← HS.out.len, HN.out]; exact Nat.le_refl _)])
      have hfn : flN L n ≤ 1000 := by unfold flN; rw [HF.out]; exact HM.out
      have HG := Lib.hid (HGR.out (flN L n) (by omega))
      generalize flN L n = Z at *
      clear hi hlt HGR hfn
      go_wp2_with fail
      refine (HG.out _).mono ?_
      rintro e w2 ⟨v, rfl, ho, hb⟩
      have HO := Lib.hid ho
      have HB := Lib.hid hb
      clear ho hb HG
      go_wp2_with fail
      go_loopw [6, 8, 27] (fun v6 _ v27 wr => ∃ i : Nat, i ≤ n ∧ v27 = .int .i64 (i : Int) ∧ OWS wr W0.heap.size v6 (L.take i).flatten ∧ Below W0.heap.size W0 wr) (fun _ _ v _ => n - (intOf v).toNat)
      case atStart => exact ⟨0, Nat.zero_le _, rfl, HO.out, HB.out⟩
      case round =>
        clear HO HB
        obtain ⟨i, hi, rfl, ho, hb⟩ := hrel
        have HO := Lib.hid ho
        have HB := Lib.hid hb
        clear ho hb
        by_cases hlt : i < n
        · obtain ⟨p, hp⟩ : ∃ p, P[i]? = some p := ⟨_, List.getElem?_eq_getElem (by rw [HN.out]; exact hlt)⟩
          obtain ⟨l, hl⟩ : ∃ l, L[i]? = some l := ⟨_, List.getElem?_eq_getElem (by rw [← HS.out.len, HN.out]; exact hlt)⟩
          have hls := HS.out.at_ i p l hp hl
          obtain ⟨ap, cp, rfl, hcp, _⟩ := id hls
          have hix := index_ss b n n i hlt
          have HLT := Lib.hid hlt
          have iI : (i : Int) < (n : Int) := by omega
          have i0 : (0 : Int) ≤ (i : Int) := by omega
          have HNX := Lib.hid (flat_next hl)
          have c0 := cell_of_row _ b i _ _ _ HS.out.row
          rw [show P.toArray[i]? = some (.slice ap l.length cp) by simpa using hp] at c0
          have e0 := cell_block15 c0 HB.out
          have hle := flat_le L (i + 1)
          rw [HNX.out, List.length_append] at hle
          obtain ⟨v', w3, hr, ho3, hg⟩ := ows_app HO.out HB.out.size (hls.below HB.out) (by have := HM.out; omega) 22
          have HR := Lib.hid hr
          have HO3 := Lib.hid ho3
          have HB3 := Lib.hid (HO.out.grown hg HB.out)
          clear hi hlt hp hl hls hcp hle hr ho3 hg c0
          go_wp2_with (first
            | (at_builtin; refine wpList_append_run (o := ⟨some 33, _, _, _, _, _⟩) rfl _ _ _ _ rfl _ _ _ _ rfl rfl HR.out ?_))
          go_roundw
          case rel => exact ⟨i + 1, by have := HLT.out; omega, by go_num, by rw [HNX.out]; exact HO3.out, HB3.out⟩
          case measure => simp [intOf]; have := HLT.out; omega
        · obtain rfl : n = i := by omega
          have HO2 := Lib.hid (show OWS wr W0.heap.size _ L.flatten from HF.out ▸ HO.out)
          clear hi hlt HO
          go_wp2_with fail
          go_ret
          exact ⟨_, rfl, HO2.out, HB.out⟩
theorem app_two {α : Type} (a b : List α) : [a, b].flatten = a ++ b := by simp
theorem app_three {α : Type} (a b c : List α) : [a, b, c].flatten = a ++ (b ++ c) := by simp
theorem ssr_two {w : World} {b : Nat} {p q : Value} {l m : List SetV} (h : w.heap[b]? = some (.cells #[p, q] 22 (0, 0))) (hp : LS w p l) (hq : LS w q m) : SSr w b [p, q] [l, m] := by
  refine ⟨h, rfl, fun i x y hx hy => ?_⟩
  match i with
  | 0 => cases hx; cases hy; exact hp
  | 1 => cases hx; cases hy; exact hq
  | i + 2 => simp at hx
theorem ssr_three {w : World} {b : Nat} {p q r : Value} {l m k : List SetV} (h : w.heap[b]? = some (.cells #[p, q, r] 22 (0, 0))) (hp : LS w p l) (hq : LS w q m) (hr : LS w r k) : SSr w b [p, q, r] [l, m, k] := by
  refine ⟨h, rfl, fun i x y hx hy => ?_⟩
  match i with
  | 0 => cases hx; cases hy; exact hp
  | 1 => cases hx; cases hy; exact hq
  | 2 => cases hx; cases hy; exact hr
  | i + 3 => simp at hx
set_option maxRecDepth 100000 in
set_option maxHeartbeats 3200000 in
theorem pwithout15 (v : Value) (l : List SetV) (n : ByteArray) (w : World) (h : LS w v l) (hs : l.length ≤ 1000) (hr : Rising (nms l)) (hm : n ∈ nms l) :
    Calls Try.prog 54 #[v, .string n] w fun e w' => ∃ v', e = .returned v' ∧ OWS w' w.heap.size v' (lessL l n) ∧ Below w.heap.size w w' := by
  have HPL := Lib.hid (place15 v l n w h hs hr)
  obtain ⟨h4, hlt⟩ := (rank_facts hr n).2.2.2.1 (hasK_iff.2 hm)
  have HLE := Lib.hid (show lessL l n = l.take (rankK (nms l) n) ++ l.drop (rankK (nms l) n + 1) from h4)
  rw [hasK_iff.2 hm] at HPL
  generalize rankK (nms l) n = r at *
  obtain ⟨a, c, rfl, hc, hat⟩ := id h
  obtain ⟨a1, hs1, hl1⟩ := ls_take w a l.length c r l h (by omega)
  obtain ⟨a2, hs2, hl2⟩ := ls_drop w a l.length c (r + 1) l h (by omega)
  have hs2' : ∀ W', (Instr.slice 22 (.slice a l.length c) (some (.int .i64 ((r : Int) + 1))) none none).run Try.prog W' = .ok (.slice a2 (l.length - (r + 1)) (c - (r + 1))) W' := hs2
  have HL1 := Lib.hid hl1
  have HL2 := Lib.hid hl2
  have HT := Lib.hid (show (l.take r ++ l.drop (r + 1)).length ≤ 1000 by rw [List.length_append, List.length_take, List.length_drop]; omega)
  have rI : (r : Int) ≤ 1000 := by omega
  have r0 : (0 : Int) ≤ (r : Int) := by omega
  clear h hr hm h4 hat hl1 hl2 hs2 hs
  obtain ⟨n1, hn1⟩ : ∃ z, l.length - (r + 1) = z := ⟨_, rfl⟩
  obtain ⟨c1, hc1⟩ : ∃ z, c - (r + 1) = z := ⟨_, rfl⟩
  rw [hn1, hc1] at hs2' HL2
  obtain ⟨ln, hln⟩ : ∃ z, l.length = z := ⟨_, rfl⟩
  rw [hln] at HPL hs1 hs2' ⊢
  have hw1 : IntKind.i64.wrap ((r : Int) + 1) = (r : Int) + 1 := IntWalk.i64_in _ (by omega)
  clear hn1 hc1 hln hc hlt
  go_enter Try.func54, Try.ntmps54
  go_wp2_with fail
  refine HPL.out.mono ?_
  rintro e w2 ⟨rfl, hb2⟩
  have HB2 := Lib.hid hb2
  clear hb2 HPL
  have hlit := lit_ss2 a1 r c a2 n1 c1 w2.drew
  have hlit2 : (Instr.buildSlice 118 2 #[(0, .slice a1 r c), (1, .slice a2 n1 c1)]).run Try.prog w2.drew = .ok (.slice (some ⟨w2.heap.size, 0, none⟩) 2 2) (w2.drew.alloc (.cells #[.slice a1 r c, .slice a2 n1 c1] 22)) := hlit
  clear hlit
  go_upto_region 2 with fail
  try simp only [Act.put]
  refine wp_region_noPanic ?_
  refine wp_region_held_drew (S := fun _ => True) (by kernel_rfl) trivial (fun hHeld => ?_)
  refine wpAnyH_take (i := 0) (oi := ⟨some 13, _, _, _, _, _⟩) (v := ?_) rfl (by kernel_rfl) (by decide +kernel) (by decide +kernel) (fun _ _ _ h => h) (Or.inl ⟨by rfl, ?_⟩) (by assumption) ?_
  rotate_left 1
  · (intro w' hSw; go_simp; try with_reducible rfl)
  try simp only [Act.put, List.setIfInBounds_toArray, List.set_cons_zero, List.set_cons_succ]
  refine wpAnyH_take (i := 1) (oi := ⟨some 14, _, _, _, _, _⟩) (v := ?_) rfl (by kernel_rfl) (by decide +kernel) (by decide +kernel) (fun _ _ _ h => h) (Or.inl ⟨by rfl, ?_⟩) (by assumption) ?_
  rotate_left 1
  · (intro w' hSw; go_simp; try with_reducible rfl)
  try simp only [Act.put, List.setIfInBounds_toArray, List.set_cons_zero, List.set_cons_succ]
  refine wpAnyH_take (i := 2) (oi := ⟨some 15, _, _, _, _, _⟩) (v := ?_) rfl (by kernel_rfl) (by decide +kernel) (by decide +kernel) (fun _ _ _ h => h) (Or.inl ⟨by rfl, ?_⟩) (by assumption) ?_
  rotate_left 1
  · (intro w' hSw; go_simp; try with_reducible rfl)
  try simp only [Act.put, List.setIfInBounds_toArray, List.set_cons_zero, List.set_cons_succ]
  refine wpAnyH_take (i := 3) (oi := ⟨some 16, _, _, _, _, _⟩) (v := ?_) rfl (by kernel_rfl) (by decide +kernel) (by decide +kernel) (fun _ _ _ h => h) (Or.inl ⟨by rfl, ?_⟩) (by assumption) ?_
  rotate_left 1
  · (intro w' hSw; go_simp; try with_reducible rfl)
  try simp only [Act.put, List.setIfInBounds_toArray, List.set_cons_zero, List.set_cons_succ]
  refine wpAnyH_take (i := 4) (oi := ⟨some 17, _, _, _, _, _⟩) (v := ?_) rfl (by kernel_rfl) (by decide +kernel) (by decide +kernel) (fun _ _ _ h => h) (Or.inl ⟨by rfl, ?_⟩) (by assumption) ?_
  rotate_left 1
  · (intro w' hSw; go_simp; try with_reducible rfl)
  try simp only [Act.put, List.setIfInBounds_toArray, List.set_cons_zero, List.set_cons_succ]
  refine wpAnyH_take (i := 5) (oi := ⟨some 18, _, _, _, _, _⟩) (v := ?_) rfl (by kernel_rfl) (by decide +kernel) (by decide +kernel) (fun _ _ _ h => h) (Or.inl ⟨by rfl, ?_⟩) (by assumption) ?_
  rotate_left 1
  · (intro w' hSw; go_simp; try with_reducible rfl)
  try simp only [Act.put, List.setIfInBounds_toArray, List.set_cons_zero, List.set_cons_succ]
  refine wpAnyH_take (i := 6) (oi := ⟨some 19, _, _, _, _, _⟩) (v := ?_) rfl (by kernel_rfl) (by decide +kernel) (by decide +kernel) (fun _ _ _ h => h) (Or.inl ⟨by rfl, ?_⟩) (by assumption) ?_
  rotate_left 1
  · (intro w' hSw; go_simp; try with_reducible rfl)
  try simp only [Act.put, List.setIfInBounds_toArray, List.set_cons_zero, List.set_cons_succ]
  refine wpAnyH_ready (rs := [7]) (by decide +kernel) (by simp) ?_
  refine AllReadyH.cons rfl (fun K hK => ?_) AllReadyH.nil
  refine wp_lit_at (o := ⟨some 20, _, _, _, _, _⟩) _ _ _ rfl #[(0, .slice a1 r c), (1, .slice a2 n1 c1)] (by simp [Act.eval]) _ _ hlit2 ?_
  have hn3 : (w2.drew.alloc (.cells #[.slice a1 r c, .slice a2 n1 c1] 22)).heap[w2.heap.size]? = some (.cells #[.slice a1 r c, .slice a2 n1 c1] 22 (0, 0)) := heap_alloc_new w2.drew _
  have HB3 := Lib.hid (bt15 HB2.out ((Below.refl _ w2).drew.alloc (Nat.le_refl _) (.cells #[.slice a1 r c, .slice a2 n1 c1] 22)))
  generalize World.alloc w2.drew (.cells #[.slice a1 r c, .slice a2 n1 c1] 22) = w3 at *
  have HCC := Lib.hid (concat15 w2.heap.size _ _ w3 (ssr_two hn3 (HL1.out.below HB3.out) (HL2.out.below HB3.out)) (by rw [app_two]; exact HT.out) (by simp))
  rw [app_two] at HCC
  generalize w2.heap.size = X at *
  clear hn3 hlit2
  refine hK.out _ _ trivial (fun hHeld => ?_)
  clear hK K
  try simp only [Act.put, List.setIfInBounds_toArray, List.set_cons_zero, List.set_cons_succ]
  refine wpAnyH_ready (rs := [8]) (by decide +kernel) (by simp) ?_
  refine AllReadyH.cons rfl (fun K hK => ?_) AllReadyH.nil
  go_simp
  refine HCC.out.mono ?_
  rintro e w4 ⟨v', rfl, ho, hb⟩
  have HO := Lib.hid (show OWS w4 w.heap.size v' (lessL l n) from HLE.out ▸ ho.up HB3.out.size)
  have HB4 := Lib.hid (bt15 HB3.out hb)
  clear ho hb HCC
  go_wp2_with fail
  refine hK.out _ _ trivial (fun hHeld => ?_)
  clear hK K
  try simp only [Act.put, List.setIfInBounds_toArray, List.set_cons_zero, List.set_cons_succ]
  refine wpAnyH_take (i := 9) (oi := ⟨some 4, _, _, _, _, _⟩) (v := ?_) rfl (by kernel_rfl) (by decide +kernel) (by decide +kernel) (fun _ _ _ h => h) (Or.inl ⟨by rfl, ?_⟩) (by assumption) ?_
  rotate_left 1
  · (intro w' hSw; go_simp; try with_reducible rfl)
  try simp only [Act.put, List.setIfInBounds_toArray, List.set_cons_zero, List.set_cons_succ]
  refine wpAnyH_done (by decide +kernel) ?_ _
  refine NoPanic.normal ?_
  go_wp2_with fail
  go_ret
  exact ⟨_, rfl, HO.out, HB4.out⟩
set_option maxRecDepth 100000 in
set_option maxHeartbeats 3200000 in
theorem pwith15 (v : Value) (l : List SetV) (s : SetV) (w : World) (h : LS w v l) (hs : l.length < 1000) (hr : Rising (nms l)) (hm : s.nm ∉ nms l) :
    Calls Try.prog 56 #[v, .agg (setRow s).toArray] w fun e w' => ∃ v', e = .returned v' ∧ OWS w' w.heap.size v' (withL l s) ∧ Below w.heap.size w w' := by
  obtain ⟨AR, har⟩ := setR s
  rw [har.eq]
  have HAR := Lib.hid har
  have hnw := new15 w (.cells AR 38)
  obtain ⟨c0, _, _, _⟩ := set_atR hnw har
  have hrg : (w.alloc (.cells AR 38)).rangeAt w.heap.size 0 (setRow s) := by rw [← har.eq]; exact range_of_row (new15 w _)
  have HB := Lib.hid (ba15 w (.cells AR 38))
  have HPL := Lib.hid (fun W (b : Below w.heap.size w W) => place15 v l s.nm W (h.below b) (by omega) hr)
  obtain ⟨h1, _, h3, _, hle⟩ := rank_facts hr s.nm
  have hh : hasK (nms l) s.nm = false := by rw [← Bool.not_eq_true, hasK_iff]; exact hm
  have HLE := Lib.hid (show withL l s = l.take (rankK (nms l) s.nm) ++ ([s] ++ l.drop (rankK (nms l) s.nm)) by unfold withL; rw [h1, h3 hh]; rfl)
  rw [hh] at HPL
  generalize rankK (nms l) s.nm = r at *
  obtain ⟨a, c, rfl, hc, hat⟩ := id h
  obtain ⟨a1, hs1, hl1⟩ := ls_take w a l.length c r l h hle
  obtain ⟨a2, hs2, hl2⟩ := ls_drop w a l.length c r l h hle
  have HL1 := Lib.hid hl1
  have HL2 := Lib.hid hl2
  have HT := Lib.hid (show (l.take r ++ ([s] ++ l.drop r)).length ≤ 1000 by rw [List.length_append, List.length_append, List.length_take, List.length_drop, List.length_singleton]; omega)
  have rI : (r : Int) ≤ 1000 := by omega
  have r0 : (0 : Int) ≤ (r : Int) := by omega
  have HRG := Lib.hid hrg
  clear h hr hm h1 h3 hh hat hl1 hl2 hs hnw hrg har
  obtain ⟨n1, hn1⟩ : ∃ z, l.length - r = z := ⟨_, rfl⟩
  obtain ⟨c1, hc1⟩ : ∃ z, c - r = z := ⟨_, rfl⟩
  rw [hn1, hc1] at hs2 HL2
  obtain ⟨ln, hln⟩ : ∃ z, l.length = z := ⟨_, rfl⟩
  rw [hln] at HPL hs1 hs2 ⊢
  clear hn1 hc1 hln hc hle
  go_enter Try.func56, Try.ntmps56
  go_wp2_with fail
  refine (HPL.out _ HB.out).mono ?_
  rintro e w2 ⟨rfl, hb2⟩
  have HB2 := Lib.hid (bt15 HB.out hb2)
  have HR2 := Lib.hid (fun (W : World) (b : Below w2.heap.size w2 W) => range_below (range_below HRG.out hb2) b)
  clear hb2 HPL HRG c0
  generalize hX : w.heap.size = X at *
  have hlit : (Instr.buildSlice 22 1 #[(0, .agg AR)]).run Try.prog w2.drew = .ok (.slice (some ⟨w2.heap.size, 0, none⟩) 1 1) (w2.drew.alloc (.cells AR 38)) := by have h := lit_set s w2.drew; rw [HAR.out.eq] at h; exact h
  go_upto_region 2 with fail
  try simp only [Act.put]
  refine wp_region_noPanic ?_
  refine wp_region_held_drew (S := fun W => W.rangeAt X 0 (setRow s)) (by kernel_rfl) (HR2.out _ (Below.refl _ w2).drew) (fun hHeld => ?_)
  refine wpAnyH_take (i := 0) (oi := ⟨some 14, _, _, _, _, _⟩) (v := ?_) rfl (by kernel_rfl) (by decide +kernel) (by decide +kernel) (fun _ _ _ h => h) (Or.inl ⟨by rfl, ?_⟩) (by assumption) ?_
  rotate_left 1
  · (intro w' hSw; go_simp; try with_reducible rfl)
  try simp only [Act.put, List.setIfInBounds_toArray, List.set_cons_zero, List.set_cons_succ]
  refine wpAnyH_take (i := 1) (oi := ⟨some 15, _, _, _, _, _⟩) (v := ?_) rfl (by kernel_rfl) (by decide +kernel) (by decide +kernel) (fun _ _ _ h => h) (Or.inl ⟨by rfl, ?_⟩) (by assumption) ?_
  rotate_left 1
  · (intro w' hSw; go_simp; try with_reducible rfl)
  try simp only [Act.put, List.setIfInBounds_toArray, List.set_cons_zero, List.set_cons_succ]
  refine wpAnyH_take (i := 2) (oi := ⟨some 16, _, _, _, _, _⟩) (v := ?_) rfl (by kernel_rfl) (by decide +kernel) (by decide +kernel) (fun _ _ _ h => h) (Or.inl ⟨by rfl, ?_⟩) (by assumption) ?_
  rotate_left 1
  · (intro w' hSw; go_simp; try with_reducible rfl)
  try simp only [Act.put, List.setIfInBounds_toArray, List.set_cons_zero, List.set_cons_succ]
  refine wpAnyH_take (i := 3) (oi := ⟨some 17, _, _, _, _, _⟩) rfl (by kernel_rfl) (by decide +kernel) (by decide +kernel) (fun _ _ _ h => h) (yieldsIf_load_mid (by rfl) _ _ rfl X 0 rfl (setRow s) _ (fun w' h => h) Try.underlying38 rfl (size_set s)) (by assumption) ?_
  try simp only [Act.put, List.setIfInBounds_toArray, List.set_cons_zero, List.set_cons_succ]
  rw [HAR.out.eq]
  refine wpAnyH_take (i := 5) (oi := ⟨some 19, _, _, _, _, _⟩) (v := ?_) rfl (by kernel_rfl) (by decide +kernel) (by decide +kernel) (fun _ _ _ h => h) (Or.inl ⟨by rfl, ?_⟩) (by assumption) ?_
  rotate_left 1
  · (intro w' hSw; go_simp; try with_reducible rfl)
  try simp only [Act.put, List.setIfInBounds_toArray, List.set_cons_zero, List.set_cons_succ]
  refine wpAnyH_take (i := 6) (oi := ⟨some 20, _, _, _, _, _⟩) (v := ?_) rfl (by kernel_rfl) (by decide +kernel) (by decide +kernel) (fun _ _ _ h => h) (Or.inl ⟨by rfl, ?_⟩) (by assumption) ?_
  rotate_left 1
  · (intro w' hSw; go_simp; try with_reducible rfl)
  try simp only [Act.put, List.setIfInBounds_toArray, List.set_cons_zero, List.set_cons_succ]
  refine wpAnyH_take (i := 7) (oi := ⟨some 21, _, _, _, _, _⟩) (v := ?_) rfl (by kernel_rfl) (by decide +kernel) (by decide +kernel) (fun _ _ _ h => h) (Or.inl ⟨by rfl, ?_⟩) (by assumption) ?_
  rotate_left 1
  · (intro w' hSw; go_simp; try with_reducible rfl)
  try simp only [Act.put, List.setIfInBounds_toArray, List.set_cons_zero, List.set_cons_succ]
  refine wpAnyH_ready (rs := [4]) (by decide +kernel) (by simp) ?_
  refine AllReadyH.cons rfl (fun K hK => ?_) AllReadyH.nil
  refine wp_lit_at (o := ⟨some 18, _, _, _, _, _⟩) _ _ _ rfl #[(0, .agg AR)] (by simp [Act.eval]) _ _ hlit ?_
  have hn3 : (w2.drew.alloc (.cells AR 38)).heap[w2.heap.size]? = some (.cells AR 38 (0, 0)) := heap_alloc_new w2.drew _
  have hb3 : Below w2.heap.size w2 (w2.drew.alloc (.cells AR 38)) := (Below.refl _ w2).drew.alloc (Nat.le_refl _) _
  have hsz3 : (w2.drew.alloc (.cells AR 38)).heap.size = w2.heap.size + 1 := by simp
  generalize World.alloc w2.drew (.cells AR 38) = w3 at *
  have HB3 := Lib.hid hb3
  have HN3 := Lib.hid hn3
  clear hb3 hn3 hsz3 hlit
  generalize hY : w2.heap.size = Y at *
  have hlit : (Instr.buildSlice 118 3 #[(0, .slice a1 r c), (1, .slice (some ⟨Y, 0, none⟩) 1 1), (2, .slice a2 n1 c1)]).run Try.prog w3 = .ok (.slice (some ⟨w3.heap.size, 0, none⟩) 3 3) (w3.alloc (.cells #[.slice a1 r c, .slice (some ⟨Y, 0, none⟩) 1 1, .slice a2 n1 c1] 22)) := lit_ss3 _ _ _ _ _ _ _ _ _ w3
  refine hK.out _ _ (HR2.out _ (hY ▸ HB3.out)) (fun hHeld => ?_)
  clear hK K
  try simp only [Act.put, List.setIfInBounds_toArray, List.set_cons_zero, List.set_cons_succ]
  refine wpAnyH_ready (rs := [8]) (by decide +kernel) (by simp) ?_
  refine AllReadyH.cons rfl (fun K hK => ?_) AllReadyH.nil
  refine wp_lit_at (o := ⟨some 22, _, _, _, _, _⟩) _ _ _ rfl #[(0, .slice a1 r c), (1, .slice (some ⟨Y, 0, none⟩) 1 1), (2, .slice a2 n1 c1)] (by simp [Act.eval]) _ _ hlit ?_
  have hn4 := new15 w3 (.cells #[.slice a1 r c, .slice (some ⟨Y, 0, none⟩) 1 1, .slice a2 n1 c1] 22)
  have hb4 := ba15 w3 (.cells #[.slice a1 r c, .slice (some ⟨Y, 0, none⟩) 1 1, .slice a2 n1 c1] 22)
  generalize World.alloc w3 (.cells #[.slice a1 r c, .slice (some ⟨Y, 0, none⟩) 1 1, .slice a2 n1 c1] 22) = w4 at *
  have hb34 : Below Y w2 w4 := hY ▸ bt15 (hY ▸ HB3.out) hb4
  have HB4 := Lib.hid (show Below X w w4 from hX ▸ bt15 (hX ▸ HB2.out) (hY ▸ hb34))
  have HB34 := Lib.hid hb34
  have HCC := Lib.hid (concat15 w3.heap.size _ _ w4 (ssr_three hn4 (HL1.out.below (hX ▸ HB4.out)) (ls_one (AR := AR) (hb4.block Y (by have := lt_of_block HN3.out; exact this) |>.trans HN3.out) HAR.out) (HL2.out.below (hX ▸ HB4.out))) (by rw [app_three]; exact HT.out) (by simp))
  rw [app_three] at HCC
  generalize w3.heap.size = Z at *
  clear hn4 hb4 hb34 hlit
  refine hK.out _ _ (HR2.out _ (hY ▸ HB34.out)) (fun hHeld => ?_)
  clear hK K
  try simp only [Act.put, List.setIfInBounds_toArray, List.set_cons_zero, List.set_cons_succ]
  refine wpAnyH_ready (rs := [9]) (by decide +kernel) (by simp) ?_
  refine AllReadyH.cons rfl (fun K hK => ?_) AllReadyH.nil
  go_simp
  refine HCC.out.mono ?_
  rintro e w5 ⟨v', rfl, ho, hb⟩
  have HO := Lib.hid (show OWS w5 X v' (withL l s) from HLE.out ▸ ho.up (hX ▸ HB4.out.size))
  have HB5 := Lib.hid (HB4.out.trans (hb.mono (hX ▸ HB4.out.size)))
  have hR5 := HR2.out w5 (hY ▸ HB34.out.trans (hb.mono (hY ▸ HB34.out.size)))
  clear ho hb HCC
  go_wp2_with fail
  refine hK.out _ _ hR5 (fun hHeld => ?_)
  clear hK K
  try simp only [Act.put, List.setIfInBounds_toArray, List.set_cons_zero, List.set_cons_succ]
  refine wpAnyH_take (i := 10) (oi := ⟨some 4, _, _, _, _, _⟩) (v := ?_) rfl (by kernel_rfl) (by decide +kernel) (by decide +kernel) (fun _ _ _ h => h) (Or.inl ⟨by rfl, ?_⟩) (by assumption) ?_
  rotate_left 1
  · (intro w' hSw; go_simp; try with_reducible rfl)
  try simp only [Act.put, List.setIfInBounds_toArray, List.set_cons_zero, List.set_cons_succ]
  refine wpAnyH_done (by decide +kernel) ?_ _
  refine NoPanic.normal ?_
  go_wp2_with fail
  go_ret
  exact ⟨_, rfl, by rw [hX]; exact HO.out, by rw [hX]; exact HB5.out⟩
end Go.Proofs.Ytkafabcklohlmaa
