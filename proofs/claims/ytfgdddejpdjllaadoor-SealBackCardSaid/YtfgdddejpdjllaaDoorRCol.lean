/-
  The reference's columns: mixed, by four numbers.
-/
import Derived.Test.YtfgdddejpdjllaaDoorRTable
namespace Go.Proofs.YtfgdddejpdjllaaDoor
set_option maxRecDepth 4000
open Go.RowKit

/-- j of four products, summed. -/
def colP (g x : List (BitVec 8)) (c i : Nat) : Nat → BitVec 8
  | 0 => 0
  | j + 1 => colP g x c i j ^^^ gm (g.getD j 0) (x.getD (4 * c + (i + j) % 4) 0)
def colF (g x : List (BitVec 8)) (p : Nat) : BitVec 8 := colP g x (p / 4) (p % 4) 4
def colB (g x : List (BitVec 8)) : List (BitVec 8) := (List.range 16).map (colF g x)
theorem colB_length (g x : List (BitVec 8)) : (colB g x).length = 16 := by simp [colB]
theorem row_zero (F : Nat → BitVec 8) (p : Nat) (h : p < 16) : (setF id F p (zeroY 16)).set p 0 = setF id F p (zeroY 16) := by
  apply List.ext_getElem (by simp)
  intro j h1 h2
  rw [List.getElem_set]
  by_cases e : p = j
  · subst e
    rw [if_pos rfl]
    have := setF_id F (zeroY 16) p 0
    have z : (zeroY 16).getD p 0 = 0 := (show ∀ p, p < 16 → (zeroY 16).getD p 0 = 0 by decide +kernel) p h
    rw [z] at this
    rw [← this]
    simp [List.getD, h2]
  · rw [if_neg e]
set_option maxRecDepth 100000 in
set_option maxHeartbeats 3200000 in
theorem rcolumns_any (x g : List (BitVec 8)) (w : World) (hx : x.length = 16) (hg : g.length = 4) :
    Calls Tryd.prog 84 #[.agg (yvs x), .agg (yvs g)] w fun e w' => e = .returned (.agg (yvs (colB g x))) ∧ Below w.heap.size w w' := by
  have HXL := Lib.hid hx
  have HGL := Lib.hid hg
  clear hx hg
  go_enter Tryd.func84, Tryd.ntmps84
  go_upto_region 2 with fail
  obtain ⟨h0, h1, h2, hsz, hbel⟩ := ythree w (.cells (yvs x) 70) (.cells (yvs g) 111) (.cells (yvs (zeroY 16)) 70)
  have hX0 : ArrY _ w.heap.size 70 x := h0
  have hG0 : ArrY _ (w.heap.size + 1) 111 g := h1
  have hR0 : ArrY _ (w.heap.size + 1 + 1) 70 (zeroY 16) := h2
  generalize hW1 : World.alloc (World.alloc (World.alloc (World.alloc w _) _) _) _ = W1
  have h4 : ArrY W1 w.heap.size 70 x ∧ ArrY W1 (w.heap.size + 1) 111 g ∧ ArrY W1 (w.heap.size + 1 + 1) 70 (zeroY 16) ∧ ArrY W1 (w.heap.size + 1 + 1 + 1) 70 (zeroY 16) ∧ Below w.heap.size w W1 := by
    rw [← hW1]
    have hst := (Below.refl (((w.alloc (.cells (yvs x) 70)).alloc (.cells (yvs g) 111)).alloc (.cells (yvs (zeroY 16)) 70)).heap.size (((w.alloc (.cells (yvs x) 70)).alloc (.cells (yvs g) 111)).alloc (.cells (yvs (zeroY 16)) 70))).alloc (Nat.le_refl _) (.cells (yvs (zeroY 16)) 70)
    have hn := heap_alloc_new (((w.alloc (.cells (yvs x) 70)).alloc (.cells (yvs g) 111)).alloc (.cells (yvs (zeroY 16)) 70)) (.cells (yvs (zeroY 16)) 70)
    rw [hsz] at hn hst
    exact ⟨hX0.below hst (by omega), hG0.below hst (by omega), hR0.below hst (by omega), hn, hbel.trans (hst.mono (by omega))⟩
  obtain ⟨hX, hG, hR, hM, hB⟩ := h4
  have HX := Lib.hid (And.intro hX (And.intro hG hR))
  have HM := Lib.hid hM
  have HBW := Lib.hid hB
  clear hW1 h0 h1 h2 hsz hbel hX0 hG0 hR0 hX hG hR hM hB
  generalize hP0 : w.heap.size = P0 at *
  have HP0 := Lib.hid hP0
  clear hP0
  go_wp2_with fail
  go_loopw [6] (fun v6 wr => ∃ c : Nat, c ≤ 4 ∧ v6 = .int .i64 (c : Nat) ∧ ArrY wr (P0 + 1 + 1 + 1) 70 (setF id (colF g x) (4 * c) (zeroY 16)) ∧ Below (P0 + 1 + 1 + 1) W1 wr) (fun v _ => 4 - (intOf v).toNat)
  case atStart => exact ⟨0, by omega, rfl, HM.out, Below.refl _ _⟩
  case round =>
    obtain ⟨c, hc, rfl, hA, hb⟩ := hrel
    by_cases hlt : c < 4
    · have HC4 := Lib.hid hlt
      have HA := Lib.hid hA
      have HB := Lib.hid hb
      have cI : (c : Int) < 4 := by omega
      have c0 : (0 : Int) ≤ (c : Int) := by omega
      clear hc hlt hA hb
      go_wp2_with fail
      go_loopw [7] (fun v7 wr => ∃ i : Nat, i ≤ 4 ∧ v7 = .int .i64 (i : Nat) ∧ ArrY wr (P0 + 1 + 1 + 1) 70 (setF id (colF g x) (4 * c + i) (zeroY 16)) ∧ Below (P0 + 1 + 1 + 1) W1 wr) (fun v _ => 4 - (intOf v).toNat)
      case atStart => exact ⟨0, by omega, rfl, HA.out, HB.out⟩
      case round =>
        clear HA HB
        obtain ⟨i, hi, rfl, hA, hb⟩ := hrel
        by_cases hlt : i < 4
        · have HI4 := Lib.hid hlt
          have HA0 := Lib.hid hA
          have HB0 := Lib.hid hb
          have iI : (i : Int) < 4 := by omega
          have i0 : (0 : Int) ≤ (i : Int) := by omega
          clear hi hlt hA hb
          go_wp2_with fail
          go_loopw [8] (fun v8 wr => ∃ j : Nat, j ≤ 4 ∧ v8 = .int .i64 (j : Nat) ∧ ArrY wr (P0 + 1 + 1 + 1) 70 ((setF id (colF g x) (4 * c + i) (zeroY 16)).set (4 * c + i) (colP g x c i j)) ∧ Below (P0 + 1 + 1 + 1) W1 wr) (fun v _ => 4 - (intOf v).toNat)
          case atStart => exact ⟨0, by omega, rfl, by rw [colP, row_zero _ _ (by have := HC4.out; have := HI4.out; omega)]; exact HA0.out, HB0.out⟩
          case round =>
            clear HA0 HB0
            obtain ⟨j, hj, rfl, hA, hb⟩ := hrel
            by_cases hlt : j < 4
            · have hc4 := HC4.out
              have hi4 := HI4.out
              obtain ⟨n, hn, hn2⟩ : ∃ n : Nat, ((i : Int) + (j : Int)) % 4 = (n : Int) ∧ (i + j) % 4 = n := ⟨(i + j) % 4, by omega, rfl⟩
              have hml : ((setF id (colF g x) (4 * c + i) (zeroY 16)).set (4 * c + i) (colP g x c i j)).length = 16 := by rw [List.length_set, setF_length]; rfl
              have hoa : ((setF id (colF g x) (4 * c + i) (zeroY 16)).set (4 * c + i) (colP g x c i j)).getD (4 * c + i) 0 = colP g x c i j := by
                have : 4 * c + i < (setF id (colF g x) (4 * c + i) (zeroY 16)).length := by rw [setF_length]; show 4 * c + i < 16; omega
                simp [List.getD, this]
              have HSET := Lib.hid (show ((setF id (colF g x) (4 * c + i) (zeroY 16)).set (4 * c + i) (colP g x c i j)).set (4 * c + i) (colP g x c i j ^^^ gm (g.getD j 0) (x.getD (4 * c + n) 0)) = (setF id (colF g x) (4 * c + i) (zeroY 16)).set (4 * c + i) (colP g x c i (j + 1)) by
                rw [List.set_set, colP, hn2])
              have HT := Lib.hid (fun w => rtimes_any (g.getD j 0) (x.getD (4 * c + n) 0) w)
              have cg : ∀ W, Below (P0 + 1 + 1 + 1) W1 W → W.cell? ⟨P0 + 1, j, none⟩ = some (.int .u8 (yv (g.getD j 0))) := fun W hW => (HX.out.2.1.below hW (show P0 + 1 < P0 + 1 + 1 + 1 by omega)).cell (by rw [HGL.out]; exact hlt)
              have cx : ∀ W, Below (P0 + 1 + 1 + 1) W1 W → W.cell? ⟨P0, 4 * c + n, none⟩ = some (.int .u8 (yv (x.getD (4 * c + n) 0))) := fun W hW => (HX.out.1.below hW (show P0 < P0 + 1 + 1 + 1 by omega)).cell (by rw [HXL.out]; omega)
              have hxor := yv_xor (colP g x c i j) (gm (g.getD j 0) (x.getD (4 * c + n) 0))
              generalize gm (g.getD j 0) (x.getD (4 * c + n) 0) = t at *
              generalize g.getD j 0 = gj at *
              generalize x.getD (4 * c + n) 0 = xn at *
              generalize hM2 : (setF id (colF g x) (4 * c + i) (zeroY 16)).set (4 * c + i) (colP g x c i (j + 1)) = M2 at *
              have HM2 := Lib.hid hM2
              clear hM2
              generalize (setF id (colF g x) (4 * c + i) (zeroY 16)).set (4 * c + i) (colP g x c i j) = M at *
              generalize colP g x c i j = y at *
              have HA := Lib.hid hA
              have HB := Lib.hid hb
              have HC := Lib.hid (show ∀ W, Below wr.heap.size wr W → W.cell? ⟨P0 + 1 + 1 + 1, 4 * c + i, none⟩ = some (.int .u8 (yv y)) from fun W hW => by
                have := (hA.below hW (ylt hA)).cell (k := 4 * c + i) (by rw [hml]; omega)
                rwa [hoa] at this)
              have HS := Lib.hid (show ∀ W, Below wr.heap.size wr W → W.cell? ⟨P0 + 1, j, none⟩ = some (.int .u8 (yv gj)) ∧ W.cell? ⟨P0, 4 * c + n, none⟩ = some (.int .u8 (yv xn)) from fun W hW =>
                ⟨cg W (hb.trans (hW.mono (Nat.le_of_lt (ylt hA)))), cx W (hb.trans (hW.mono (Nat.le_of_lt (ylt hA))))⟩)
              have HS2 := Lib.hid (show ∀ W, Below wr.heap.size wr W → ∀ v, (W.setCell ⟨P0 + 1 + 1 + 1, 4 * c + i, none⟩ v).cell? ⟨P0 + 1, j, none⟩ = some (.int .u8 (yv gj)) ∧ (W.setCell ⟨P0 + 1 + 1 + 1, 4 * c + i, none⟩ v).cell? ⟨P0, 4 * c + n, none⟩ = some (.int .u8 (yv xn)) from fun W hW v =>
                ⟨(World.cell?_setCell_other _ _ _ _ (by intro h; injection h; omega)).trans (HS.out W hW).1, (World.cell?_setCell_other _ _ _ _ (by intro h; injection h; omega)).trans (HS.out W hW).2⟩)
              have HQ := Lib.hid hlt
              have jI : (j : Int) < 4 := by omega
              have j0 : (0 : Int) ≤ (j : Int) := by omega
              have nI : (n : Int) < 4 := by omega
              have n0 : (0 : Int) ≤ (n : Int) := by omega
              have e1 : IntKind.i64.wrap (4 * (c : Int)) = 4 * (c : Int) := IntWalk.i64_in _ (by omega)
              have e2 : IntKind.i64.wrap (4 * (c : Int) + (i : Int)) = 4 * (c : Int) + (i : Int) := IntWalk.i64_in _ (by omega)
              have e3 : IntKind.i64.wrap ((i : Int) + (j : Int)) = (i : Int) + (j : Int) := IntWalk.i64_in _ (by omega)
              have e4 : ((i : Int) + (j : Int)).tmod 4 = (n : Int) := by rw [Int.tmod_eq_emod_of_nonneg (by omega)]; exact hn
              have e5 : IntKind.i64.wrap (4 * (c : Int) + (n : Int)) = 4 * (c : Int) + (n : Int) := IntWalk.i64_in _ (by omega)
              have e6 : (4 * (c : Int) + (i : Int)).toNat = 4 * c + i := by omega
              have e7 : (4 * (c : Int) + (n : Int)).toNat = 4 * c + n := by omega
              have b1 : 4 * (c : Int) + (i : Int) < 16 := by omega
              have b2 : 4 * (c : Int) + (n : Int) < 16 := by omega
              have b3 : 0 ≤ 4 * (c : Int) + (i : Int) := by omega
              have b4 : 0 ≤ 4 * (c : Int) + (n : Int) := by omega
              clear hj hlt hA hb hc4 hi4 hn2 hml hoa cg cx
              go_wp2_with fail
              refine wp_region_noPanic ?_
              refine wp_region_held_drew (S := fun w' => w'.cell? ⟨P0 + 1, j, none⟩ = some (.int .u8 (yv gj)) ∧ w'.cell? ⟨P0, 4 * c + n, none⟩ = some (.int .u8 (yv xn))) (by kernel_rfl) (HS.out _ (Below.refl _ wr).drew) (fun hHeld => ?_)
              refine wpAnyH_take (i := 0) (oi := ⟨some 21, _, _, _, _, _⟩) (v := ?_) rfl (by kernel_rfl) (by decide +kernel) (by decide +kernel) (fun _ _ _ h => h) (Or.inl ⟨by rfl, ?_⟩) (by assumption) ?_
              rotate_left 1
              · (intro w' hSw; obtain ⟨s1, s2⟩ := hSw; go_simp; try with_reducible rfl)
              try simp only [Act.put, List.setIfInBounds_toArray, List.set_cons_zero, List.set_cons_succ]
              refine wpAnyH_take (i := 1) (oi := ⟨some 22, _, _, _, _, _⟩) (v := ?_) rfl (by kernel_rfl) (by decide +kernel) (by decide +kernel) (fun _ _ _ h => h) (Or.inl ⟨by rfl, ?_⟩) (by assumption) ?_
              rotate_left 1
              · (intro w' hSw; obtain ⟨s1, s2⟩ := hSw; go_simp; try with_reducible rfl)
              try simp only [Act.put, List.setIfInBounds_toArray, List.set_cons_zero, List.set_cons_succ]
              refine wpAnyH_take (i := 2) (oi := ⟨some 23, _, _, _, _, _⟩) (v := ?_) rfl (by kernel_rfl) (by decide +kernel) (by decide +kernel) (fun _ _ _ h => h) (Or.inl ⟨by rfl, ?_⟩) (by assumption) ?_
              rotate_left 1
              · (intro w' hSw; obtain ⟨s1, s2⟩ := hSw; go_simp; try with_reducible rfl)
              try simp only [Act.put, List.setIfInBounds_toArray, List.set_cons_zero, List.set_cons_succ]
              refine wpAnyH_take (i := 3) (oi := ⟨some 24, _, _, _, _, _⟩) (v := ?_) rfl (by kernel_rfl) (by decide +kernel) (by decide +kernel) (fun _ _ _ h => h) (Or.inl ⟨by rfl, ?_⟩) (by assumption) ?_
              rotate_left 1
              · (intro w' hSw; obtain ⟨s1, s2⟩ := hSw; go_simp; try with_reducible rfl)
              try simp only [Act.put, List.setIfInBounds_toArray, List.set_cons_zero, List.set_cons_succ]
              refine wpAnyH_take (i := 4) (oi := ⟨some 25, _, _, _, _, _⟩) (v := ?_) rfl (by kernel_rfl) (by decide +kernel) (by decide +kernel) (fun _ _ _ h => h) (Or.inl ⟨by rfl, ?_⟩) (by assumption) ?_
              rotate_left 1
              · (intro w' hSw; obtain ⟨s1, s2⟩ := hSw; go_simp; try with_reducible rfl)
              try simp only [Act.put, List.setIfInBounds_toArray, List.set_cons_zero, List.set_cons_succ]
              refine wpAnyH_take (i := 6) (oi := ⟨some 27, _, _, _, _, _⟩) (v := ?_) rfl (by kernel_rfl) (by decide +kernel) (by decide +kernel) (fun _ _ _ h => h) (Or.inl ⟨by rfl, ?_⟩) (by assumption) ?_
              rotate_left 1
              · (intro w' hSw; obtain ⟨s1, s2⟩ := hSw; go_simp; try with_reducible rfl)
              try simp only [Act.put, List.setIfInBounds_toArray, List.set_cons_zero, List.set_cons_succ]
              refine wpAnyH_take (i := 7) (oi := ⟨some 28, _, _, _, _, _⟩) (v := ?_) rfl (by kernel_rfl) (by decide +kernel) (by decide +kernel) (fun _ _ _ h => h) (Or.inl ⟨by rfl, ?_⟩) (by assumption) ?_
              rotate_left 1
              · (intro w' hSw; obtain ⟨s1, s2⟩ := hSw; go_simp; try with_reducible rfl)
              try simp only [Act.put, List.setIfInBounds_toArray, List.set_cons_zero, List.set_cons_succ]
              refine wpAnyH_take (i := 8) (oi := ⟨some 29, _, _, _, _, _⟩) (v := ?_) rfl (by kernel_rfl) (by decide +kernel) (by decide +kernel) (fun _ _ _ h => h) (Or.inl ⟨by rfl, ?_⟩) (by assumption) ?_
              rotate_left 1
              · (intro w' hSw; obtain ⟨s1, s2⟩ := hSw; go_simp; try with_reducible rfl)
              try simp only [Act.put, List.setIfInBounds_toArray, List.set_cons_zero, List.set_cons_succ]
              refine wpAnyH_take (i := 9) (oi := ⟨some 30, _, _, _, _, _⟩) (v := ?_) rfl (by kernel_rfl) (by decide +kernel) (by decide +kernel) (fun _ _ _ h => h) (Or.inl ⟨by rfl, ?_⟩) (by assumption) ?_
              rotate_left 1
              · (intro w' hSw; obtain ⟨s1, s2⟩ := hSw; go_simp; try with_reducible rfl)
              try simp only [Act.put, List.setIfInBounds_toArray, List.set_cons_zero, List.set_cons_succ]
              refine wpAnyH_take (i := 10) (oi := ⟨some 31, _, _, _, _, _⟩) (v := ?_) rfl (by kernel_rfl) (by decide +kernel) (by decide +kernel) (fun _ _ _ h => h) (Or.inl ⟨by rfl, ?_⟩) (by assumption) ?_
              rotate_left 1
              · (intro w' hSw; obtain ⟨s1, s2⟩ := hSw; go_simp; try with_reducible rfl)
              try simp only [Act.put, List.setIfInBounds_toArray, List.set_cons_zero, List.set_cons_succ]
              refine wpAnyH_take (i := 11) (oi := ⟨some 32, _, _, _, _, _⟩) (v := ?_) rfl (by kernel_rfl) (by decide +kernel) (by decide +kernel) (fun _ _ _ h => h) (Or.inl ⟨by rfl, ?_⟩) (by assumption) ?_
              rotate_left 1
              · (intro w' hSw; obtain ⟨s1, s2⟩ := hSw; go_simp; try with_reducible rfl)
              try simp only [Act.put, List.setIfInBounds_toArray, List.set_cons_zero, List.set_cons_succ]
              refine wpAnyH_take (i := 12) (oi := ⟨some 33, _, _, _, _, _⟩) (v := ?_) rfl (by kernel_rfl) (by decide +kernel) (by decide +kernel) (fun _ _ _ h => h) (Or.inl ⟨by rfl, ?_⟩) (by assumption) ?_
              rotate_left 1
              · (intro w' hSw; obtain ⟨s1, s2⟩ := hSw; go_simp; try with_reducible rfl)
              try simp only [Act.put, List.setIfInBounds_toArray, List.set_cons_zero, List.set_cons_succ]
              refine wpAnyH_take (i := 13) (oi := ⟨some 34, _, _, _, _, _⟩) (v := ?_) rfl (by kernel_rfl) (by decide +kernel) (by decide +kernel) (fun _ _ _ h => h) (Or.inl ⟨by rfl, ?_⟩) (by assumption) ?_
              rotate_left 1
              · (intro w' hSw; obtain ⟨s1, s2⟩ := hSw; go_simp; try with_reducible rfl)
              try simp only [Act.put, List.setIfInBounds_toArray, List.set_cons_zero, List.set_cons_succ]
              refine wpAnyH_take (i := 14) (oi := ⟨some 35, _, _, _, _, _⟩) (v := ?_) rfl (by kernel_rfl) (by decide +kernel) (by decide +kernel) (fun _ _ _ h => h) (Or.inl ⟨by rfl, ?_⟩) (by assumption) ?_
              rotate_left 1
              · (intro w' hSw; obtain ⟨s1, s2⟩ := hSw; go_simp; try with_reducible rfl)
              try simp only [Act.put, List.setIfInBounds_toArray, List.set_cons_zero, List.set_cons_succ]
              refine wpAnyH_take (i := 15) (oi := ⟨some 36, _, _, _, _, _⟩) (v := ?_) rfl (by kernel_rfl) (by decide +kernel) (by decide +kernel) (fun _ _ _ h => h) (Or.inl ⟨by rfl, ?_⟩) (by assumption) ?_
              rotate_left 1
              · (intro w' hSw; obtain ⟨s1, s2⟩ := hSw; go_simp; try with_reducible rfl)
              try simp only [Act.put, List.setIfInBounds_toArray, List.set_cons_zero, List.set_cons_succ]
              refine wpAnyH_take (i := 16) (oi := ⟨some 37, _, _, _, _, _⟩) (v := ?_) rfl (by kernel_rfl) (by decide +kernel) (by decide +kernel) (fun _ _ _ h => h) (Or.inl ⟨by rfl, ?_⟩) (by assumption) ?_
              rotate_left 1
              · (intro w' hSw; obtain ⟨s1, s2⟩ := hSw; go_simp; try with_reducible rfl)
              try simp only [Act.put, List.setIfInBounds_toArray, List.set_cons_zero, List.set_cons_succ]
              refine wpAnyH_take (i := 17) (oi := ⟨some 38, _, _, _, _, _⟩) (v := ?_) rfl (by kernel_rfl) (by decide +kernel) (by decide +kernel) (fun _ _ _ h => h) (Or.inl ⟨by rfl, ?_⟩) (by assumption) ?_
              rotate_left 1
              · (intro w' hSw; obtain ⟨s1, s2⟩ := hSw; go_simp; try with_reducible rfl)
              try simp only [Act.put, List.setIfInBounds_toArray, List.set_cons_zero, List.set_cons_succ]
              refine wpAnyH_ready (rs := [5, 18]) (by decide +kernel) (by simp) ?_
              refine AllReadyH.cons rfl (fun K hK => ?_) (AllReadyH.cons rfl (fun K hK => ?_) AllReadyH.nil)
              · have co' := HC.out wr (Below.refl _ wr)
                go_simp
                refine hK.out _ _ (HS.out _ (Below.refl _ wr).drew) (fun hHeld => ?_)
                clear hK K co'
                try simp only [Act.put, List.setIfInBounds_toArray, List.set_cons_zero, List.set_cons_succ]
                refine wpAnyH_ready (rs := [18]) (by decide +kernel) (by simp) ?_
                refine AllReadyH.cons rfl (fun K hK => ?_) AllReadyH.nil
                go_simp
                go_at_call 28
                refine (HT.out _).mono ?_
                rintro e w5 ⟨rfl, hb⟩
                have hb5 : Below wr.heap.size wr w5 := (Below.refl wr.heap.size wr).drew.trans hb
                clear hb
                go_wp2_with fail
                refine hK.out _ _ (HS.out _ hb5) (fun hHeld => ?_)
                clear hK K
                try simp only [Act.put, List.setIfInBounds_toArray, List.set_cons_zero, List.set_cons_succ]
                refine wpAnyH_take (i := 19) (oi := ⟨some 40, _, _, _, _, _⟩) (v := ?_) rfl (by kernel_rfl) (by decide +kernel) (by decide +kernel) (fun _ _ _ h => h) (Or.inl ⟨by rfl, ?_⟩) (by assumption) ?_
                rotate_left 1
                · (intro w' hSw; obtain ⟨s1, s2⟩ := hSw; go_simp; try with_reducible rfl)
                try simp only [Act.put, List.setIfInBounds_toArray, List.set_cons_zero, List.set_cons_succ]
                refine wpAnyH_take (i := 20) (oi := ⟨some 41, _, _, _, _, _⟩) (v := ?_) rfl (by kernel_rfl) (by decide +kernel) (by decide +kernel) (fun _ _ _ h => h) (Or.inl ⟨by rfl, ?_⟩) (by assumption) ?_
                rotate_left 1
                · (intro w' hSw; obtain ⟨s1, s2⟩ := hSw; go_simp; try with_reducible rfl)
                try simp only [Act.put, List.setIfInBounds_toArray, List.set_cons_zero, List.set_cons_succ]
                refine wpAnyH_ready (rs := [21]) (by decide +kernel) (by simp) ?_
                refine AllReadyH.cons rfl (fun K hK => ?_) AllReadyH.nil
                have co' := HC.out w5 hb5
                have fo' := (HA.out.below hb5 (ylt HA.out)).free (4 * c + i)
                go_simp
                refine hK.out _ _ (HS2.out w5 hb5 _) (fun hHeld => ?_)
                clear hK K co' fo'
                refine wpAnyH_done (by decide +kernel) ?_ _
                refine NoPanic.normal ?_
                go_wp2_with fail
                go_roundw
                case rel => exact ⟨j + 1, by have := HQ.out; omega, by go_num, by rw [HM2.out, ← HSET.out]; exact (HA.out.below hb5 (ylt HA.out)).set (4 * c + i) _, (HB.out.trans (hb5.mono (Nat.le_of_lt (ylt HA.out)))).setCell (p := ⟨P0 + 1 + 1 + 1, 4 * c + i, none⟩) (Nat.le_refl _) _⟩
                case measure => simp [intOf]; omega
              · go_simp
                go_at_call 28
                refine (HT.out _).mono ?_
                rintro e w5 ⟨rfl, hb⟩
                have hb5 : Below wr.heap.size wr w5 := (Below.refl wr.heap.size wr).drew.trans hb
                clear hb
                go_wp2_with fail
                refine hK.out _ _ (HS.out _ hb5) (fun hHeld => ?_)
                clear hK K
                try simp only [Act.put, List.setIfInBounds_toArray, List.set_cons_zero, List.set_cons_succ]
                refine wpAnyH_ready (rs := [5]) (by decide +kernel) (by simp) ?_
                refine AllReadyH.cons rfl (fun K hK => ?_) AllReadyH.nil
                have co' := HC.out w5 hb5
                go_simp
                refine hK.out _ _ (HS.out _ hb5) (fun hHeld => ?_)
                clear hK K co'
                try simp only [Act.put, List.setIfInBounds_toArray, List.set_cons_zero, List.set_cons_succ]
                refine wpAnyH_take (i := 19) (oi := ⟨some 40, _, _, _, _, _⟩) (v := ?_) rfl (by kernel_rfl) (by decide +kernel) (by decide +kernel) (fun _ _ _ h => h) (Or.inl ⟨by rfl, ?_⟩) (by assumption) ?_
                rotate_left 1
                · (intro w' hSw; obtain ⟨s1, s2⟩ := hSw; go_simp; try with_reducible rfl)
                try simp only [Act.put, List.setIfInBounds_toArray, List.set_cons_zero, List.set_cons_succ]
                refine wpAnyH_take (i := 20) (oi := ⟨some 41, _, _, _, _, _⟩) (v := ?_) rfl (by kernel_rfl) (by decide +kernel) (by decide +kernel) (fun _ _ _ h => h) (Or.inl ⟨by rfl, ?_⟩) (by assumption) ?_
                rotate_left 1
                · (intro w' hSw; obtain ⟨s1, s2⟩ := hSw; go_simp; try with_reducible rfl)
                try simp only [Act.put, List.setIfInBounds_toArray, List.set_cons_zero, List.set_cons_succ]
                refine wpAnyH_ready (rs := [21]) (by decide +kernel) (by simp) ?_
                refine AllReadyH.cons rfl (fun K hK => ?_) AllReadyH.nil
                have co' := HC.out w5 hb5
                have fo' := (HA.out.below hb5 (ylt HA.out)).free (4 * c + i)
                go_simp
                refine hK.out _ _ (HS2.out w5 hb5 _) (fun hHeld => ?_)
                clear hK K co' fo'
                refine wpAnyH_done (by decide +kernel) ?_ _
                refine NoPanic.normal ?_
                go_wp2_with fail
                go_roundw
                case rel => exact ⟨j + 1, by have := HQ.out; omega, by go_num, by rw [HM2.out, ← HSET.out]; exact (HA.out.below hb5 (ylt HA.out)).set (4 * c + i) _, (HB.out.trans (hb5.mono (Nat.le_of_lt (ylt HA.out)))).setCell (p := ⟨P0 + 1 + 1 + 1, 4 * c + i, none⟩) (Nat.le_refl _) _⟩
                case measure => simp [intOf]; omega
            · have HJ := Lib.hid (show j = 4 by omega)
              have hge : (4 : Int) ≤ (j : Int) := by omega
              have HA := Lib.hid hA
              have HB := Lib.hid hb
              clear hj hlt hA hb
              go_wp2_with fail
              go_roundw
              case rel => exact ⟨i + 1, by have := HI4.out; omega, by go_num, by
                have h := HA.out
                rw [HJ.out] at h
                have e : colP g x c i 4 = colF g x (4 * c + i) := by
                  unfold colF
                  rw [show (4 * c + i) / 4 = c by have := HI4.out; omega, show (4 * c + i) % 4 = i by have := HI4.out; omega]
                rw [e] at h
                exact h, HB.out⟩
              case measure => simp [intOf]; have := HI4.out; omega
        · have HI := Lib.hid (show i = 4 by omega)
          have hge : (4 : Int) ≤ (i : Int) := by omega
          have HA := Lib.hid hA
          have HB := Lib.hid hb
          clear hi hlt hA hb
          go_wp2_with fail
          go_roundw
          case rel => exact ⟨c + 1, by have := HC4.out; omega, by go_num, by have h := HA.out; rw [HI.out] at h; exact h, HB.out⟩
          case measure => simp [intOf]; have := HC4.out; omega
    · have hge : (4 : Int) ≤ (c : Int) := by omega
      have hA16 : ArrY wr (P0 + 1 + 1 + 1) 70 (colB g x) := by
        rw [show c = 4 by omega] at hA
        rw [show 4 * 4 = 16 from rfl, setF_map] at hA
        exact hA
      have HA := Lib.hid (show wr.heap[P0 + 1 + 1 + 1]? = some (.cells (yvs (colB g x)) 70 (0, 0)) from hA16)
      have HR1 := Lib.hid (show wr.heap[P0 + 1 + 1]? = some (.cells (yvs (zeroY 16)) 70 (0, 0)) from HX.out.2.2.below hb (by omega))
      have SH := Lib.hid (size_b16 (colB g x) (colB_length g x))
      have SE := Lib.hid (show (yvs (zeroY 16)).size = (yvs (colB g x)).size by rw [yvs_size, yvs_size, colB_length]; rfl)
      have HB2 := Lib.hid (HBW.out.trans (hb.mono (by omega)))
      clear hlt hc hA hb hA16
      go_wp2_with (first
        | (with_reducible refine wpList_load_row (o := ⟨some 42, _, _, _, _, _⟩) rfl 70 _ rfl (P0 + 1 + 1 + 1) rfl 70 (yvs (colB g x)) (0, 0) _ HA.out Tryd.underlying70 rfl SH.out ?_)
        | (with_reducible refine wpList_store_row (o := ⟨none, .store _ (.tmp 4) _, _, _, _, _⟩) rfl 70 _ _ rfl (P0 + 1 + 1) (yvs (colB g x)) rfl rfl 70 (yvs (zeroY 16)) HR1.out SH.out SE.out (yvs_one _) ?_))
      refine bodyPost_ret (v := .agg (yvs (colB g x))) (results_cell_row Tryd.results84 _ _ (P0 + 1 + 1) 70 (yvs (colB g x)) (0, 0) _ rfl (setRow_heap _ (P0 + 1 + 1) _ (yvs (colB g x)) _ _ HR1.out) Tryd.underlying70 rfl SH.out) rfl ⟨rfl, ?_⟩
      rw [HP0.out]
      exact ybelow_row HB2.out (by omega) _
end Go.Proofs.YtfgdddejpdjllaaDoor
