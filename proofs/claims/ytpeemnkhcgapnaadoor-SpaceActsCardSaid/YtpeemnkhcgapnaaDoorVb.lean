/-
  bits.TrailingZeros64 and bits.OnesCount64 as the program calls them; a set of sectors in memory: has, add, drop.
-/
import Derived.Test.YtpeemnkhcgapnaaDoorVa
import Derived.Test.YtpeemnkhcgapnaaDoorCod0
import Derived.StillTailTactics
import Derived.Deep.MidRow
import Derived.Deep.QuietTactic
import Derived.BigQuiet
namespace Go.Proofs.YtpeemnkhcgapnaaDoor
set_option maxRecDepth 4000
set_option linter.unusedVariables false
open Go.RowKit

/-- The table of TrailingZeros64, as the program's text lays it. -/
def TZ (w : World) : Prop := ∀ j, j < 64 → w.cell? ⟨0, j, none⟩ = some (.int .u8 (Lib.deBruijn64tab.getD j 0 : Nat))
theorem TZ.lt {w : World} (h : TZ w) : 0 < w.heap.size := block_lt_of_cell (h 0 (by decide))
theorem TZ.below {w w' : World} (h : TZ w) (b : Below w.heap.size w w') : TZ w' := fun j hj => (b.cell h.lt).trans (h j hj)
theorem TZ.touch {w w' : World} {l : List Nat} (h : TZ w) (t : Touch l w w') (hg : 0 ∉ l) : TZ w' := fun j hj => by
  have := h j hj
  unfold World.cell? at this ⊢
  rw [t.block _ h.lt hg]; exact this
theorem tz_zero (w : World) : Calls Tryd.prog 32 #[.int .u64 0] w fun e w' => e = .returned (.int .i64 64) ∧ w' = w := by
  go_enter Tryd.func32, Tryd.ntmps32
  go_wp2
  go_ret
  exact ⟨rfl, rfl⟩
set_option maxHeartbeats 1000000 in
theorem tz_core (x k idx : Nat) (w : World) (hx0 : ((x : Int) == 0) = false)
    (key : IntKind.u64.wrap (bits BinOp.and IntKind.u64 (x : Int) (IntKind.u64.wrap (-(x : Int))) * 285870213051353865) / 288230376151711744 = (idx : Int))
    (hi : idx < 64) (hk : k < 64) (hcell : w.cell? ⟨0, idx, none⟩ = some (.int .u8 k)) :
    Calls Tryd.prog 32 #[.int .u64 x] w fun e w' => e = .returned (.int .i64 k) ∧ w' = w := by
  go_enter Tryd.func32, Tryd.ntmps32
  go_wp2_with (simp only [key])
  go_ret
  exact ⟨rfl, rfl⟩
theorem tz_key (x a : Nat) (hx : x < 18446744073709551616) (hx0 : x ≠ 0) (hlow : x &&& (18446744073709551616 - x) = a) :
    IntKind.u64.wrap (bits BinOp.and IntKind.u64 (x : Int) (IntKind.u64.wrap (-(x : Int))) * 285870213051353865) / 288230376151711744 = ((a * 285870213051353865 % 18446744073709551616 / 288230376151711744 : Nat) : Int) := by
  have e1 : IntKind.u64.wrap (-(x : Int)) = ((18446744073709551616 - x : Nat) : Int) := by rw [IntKind.wrap_u64]; omega
  rw [e1, bits_and_u64_nat x _ hx (by omega), hlow, IntKind.wrap_u64]
  omega
theorem tz_any (x : BitVec 64) (w : World) (hT : TZ w) : Calls Tryd.prog 32 #[.int .u64 (xv x)] w fun e w' => e = .returned (.int .i64 (Lib.ctz 64 x.toNat : Nat)) ∧ w' = w := by
  unfold xv
  have hx := x.isLt
  generalize x.toNat = n at *
  by_cases h0 : n = 0
  · subst h0; exact tz_zero w
  · obtain ⟨hlow, hk⟩ := Lib.lowest_bit 64 n h0 hx
    obtain ⟨hi, htab⟩ := Lib.deBruijn64_at _ hk
    have hcell := hT _ hi
    rw [htab] at hcell
    exact tz_core n _ _ w (by simp; omega) (tz_key n _ hx h0 hlow) hi hk hcell
theorem ones_any (x : BitVec 64) (w : World) : Calls Tryd.prog 33 #[.int .u64 (xv x)] w fun e w' => e = .returned (.int .i64 (cnt (fun j => x.getLsbD j) 64 : Nat)) ∧ w' = w := by
  rw [← cnt_bits]
  have hx := x.isLt
  unfold xv
  generalize x.toNat = n at *
  obtain ⟨b1, b2, b3, b4, b5, b6, b7, hc⟩ := ones_steps n _ _ _ _ _ _ hx rfl rfl rfl rfl rfl rfl
  generalize cnt (fun j => n.testBit j) 64 = c at *
  have a1 : bits .and .u64 ((n : Int) / 2) 6148914691236517205 = ((n / 2 &&& 6148914691236517205 : Nat) : Int) := bits_and_u64_nat (n / 2) 6148914691236517205 (by omega) (by omega)
  have a2 : bits .and .u64 (n : Int) 6148914691236517205 = ((n &&& 6148914691236517205 : Nat) : Int) := bits_and_u64_nat n 6148914691236517205 (by omega) (by omega)
  generalize n / 2 &&& 6148914691236517205 = u1 at *
  generalize n &&& 6148914691236517205 = u2 at *
  have a3 : IntKind.u64.wrap ((u1 : Int) + (u2 : Int)) = ((u1 + u2 : Nat) : Int) := wrap_u64_of _ b1
  generalize u1 + u2 = s1 at *
  have a4 : bits .and .u64 ((s1 : Int) / 4) 3689348814741910323 = ((s1 / 4 &&& 3689348814741910323 : Nat) : Int) := bits_and_u64_nat (s1 / 4) 3689348814741910323 (by omega) (by omega)
  have a5 : bits .and .u64 (s1 : Int) 3689348814741910323 = ((s1 &&& 3689348814741910323 : Nat) : Int) := bits_and_u64_nat s1 3689348814741910323 (by omega) (by omega)
  generalize s1 / 4 &&& 3689348814741910323 = u3 at *
  generalize s1 &&& 3689348814741910323 = u4 at *
  have a6 : IntKind.u64.wrap ((u3 : Int) + (u4 : Int)) = ((u3 + u4 : Nat) : Int) := wrap_u64_of _ b2
  generalize u3 + u4 = s2 at *
  have a7 : IntKind.u64.wrap ((s2 : Int) / 16 + (s2 : Int)) = ((s2 / 16 + s2 : Nat) : Int) := wrap_u64_of _ b3
  generalize s2 / 16 + s2 = u5 at *
  have a8 : bits .and .u64 (u5 : Int) 1085102592571150095 = ((u5 &&& 1085102592571150095 : Nat) : Int) := bits_and_u64_nat u5 1085102592571150095 (by omega) (by omega)
  generalize u5 &&& 1085102592571150095 = s3 at *
  have a9 : IntKind.u64.wrap ((s3 : Int) + (s3 : Int) / 256) = ((s3 + s3 / 256 : Nat) : Int) := wrap_u64_of _ b5
  generalize s3 + s3 / 256 = s4 at *
  have a10 : IntKind.u64.wrap ((s4 : Int) + (s4 : Int) / 65536) = ((s4 + s4 / 65536 : Nat) : Int) := wrap_u64_of _ b6
  generalize s4 + s4 / 65536 = s5 at *
  have a11 : IntKind.u64.wrap ((s5 : Int) + (s5 : Int) / 4294967296) = ((s5 + s5 / 4294967296 : Nat) : Int) := wrap_u64_of _ b7
  generalize s5 + s5 / 4294967296 = s6 at *
  have a12 : bits .and .i64 (wrap64 (s6 : Int)) 127 = (c : Int) := by
    rw [show wrap64 (s6 : Int) = IntKind.i64.wrap (s6 : Int) from (by rw [IntKind.wrap_i64, wrap64]), bits_nat_and127 s6 b7, hc]
  clear b1 b2 b3 b4 b5 b6 b7 hc hx
  go_enter Tryd.func33, Tryd.ntmps33
  go_wp2
  go_ret
  exact ⟨rfl, rfl⟩
/-! ### a set in memory -/
/-- Block b holds these cells, then a set's words. -/
def SA (w : World) (b t : Nat) (pre : List Value) (F : Nat → Bool) : Prop := w.heap[b]? = some (.cells (pre ++ wordsF F).toArray t (0, 0))
theorem SA.lt {w : World} {b t : Nat} {pre : List Value} {F : Nat → Bool} (h : SA w b t pre F) : b < w.heap.size := (Array.getElem?_eq_some_iff.1 h).1
theorem SA.cell {w : World} {b t o : Nat} {pre : List Value} {F : Nat → Bool} (h : SA w b t pre F) (ho : pre.length = o) (i : Nat) (hi : i < 64) : w.cell? ⟨b, o + i, none⟩ = some (.int .u64 (xv (wordB F i))) := by
  subst ho
  rw [cell_of_row w b _ _ _ _ h, List.getElem?_toArray, List.getElem?_append_right (by omega), Nat.add_sub_cancel_left, wordsF_at _ _ hi]
theorem SA.head {w : World} {b t : Nat} {v : Value} {pre : List Value} {F : Nat → Bool} (h : SA w b t (v :: pre) F) : w.cell? ⟨b, 0, none⟩ = some v := by
  rw [cell_of_row w b _ _ _ _ h]; rfl
theorem SA.free {w : World} {b t : Nat} {pre : List Value} {F : Nat → Bool} (h : SA w b t pre F) (k : Nat) : w.frozen? ⟨b, k, none⟩ = false := frozen_of_row w b k _ _ h
theorem SA.set {w : World} {b t o : Nat} {pre : List Value} {F : Nat → Bool} (h : SA w b t pre F) (ho : pre.length = o) (a : Nat) (v : Bool) (ha : a < 4096) : SA (w.setCell ⟨b, o + a / 64, none⟩ (.int .u64 (xv (wordB (updF F a v) (a / 64))))) b t pre (updF F a v) := by
  subst ho
  unfold SA
  rw [heap_setCell_same w b _ _ _ _ h]
  congr 2
  rw [List.setIfInBounds_toArray, List.set_append_right _ _ (by omega), Nat.add_sub_cancel_left, wordsF_set _ _ _ ha]
theorem SA.range {w : World} {b t o : Nat} {pre : List Value} {F : Nat → Bool} (h : SA w b t pre F) (ho : pre.length = o) : w.rangeAt b o (wordsF F) := by
  subst ho
  intro j v hv
  rw [cell_of_row w b _ _ _ _ h, List.getElem?_toArray, List.getElem?_append_right (by omega), Nat.add_sub_cancel_left]; exact hv
theorem SA.touch {w w' : World} {b t : Nat} {pre : List Value} {F : Nat → Bool} {l : List Nat} (h : SA w b t pre F) (q : Touch l w w') (hb : b ∉ l) : SA w' b t pre F := (q.block b h.lt hb).trans h
theorem SA.below {w w' : World} {b t : Nat} {pre : List Value} {F : Nat → Bool} (h : SA w b t pre F) (q : Below w.heap.size w w') : SA w' b t pre F := (q.block b h.lt).trans h
theorem SA.drew {w : World} {b t : Nat} {pre : List Value} {F : Nat → Bool} (h : SA w b t pre F) : SA w.drew b t pre F := h
theorem bit_any (a : Nat) (w : World) (ha : a < 4294967296) : Calls Tryd.prog 34 #[.int .u32 (a : Int)] w fun e w' => e = .returned (.int .u64 (xv (oneB (a % 64)))) ∧ w' = w := by
  have h1 : xv (oneB (a % 64)) = 2 ^ (a % 64) := xv_one _ (Nat.mod_lt _ (by decide))
  have h2 : IntKind.u64.wrap (2 ^ (a % 64)) = xv (oneB (a % 64)) := by
    rw [h1]
    exact IntWalk.u64_in _ ⟨by rw [← h1]; exact xv_pos _, by rw [← h1]; have := xv_lt (oneB (a % 64)); omega⟩
  have h3 : ((a : Int) % 64).toNat = a % 64 := by omega
  rw [← h3] at h2 ⊢
  clear h1 h3
  generalize oneB (((a : Int) % 64).toNat) = z at *
  go_enter Tryd.func34, Tryd.ntmps34
  go_wp2
  go_ret
  exact ⟨rfl, rfl⟩
set_option maxHeartbeats 1000000 in
theorem has_any (b t o a : Nat) (pre : List Value) (F : Nat → Bool) (w : World) (h : SA w b t pre F) (ho : pre.length = o) (ha : a < 4096) :
    Calls Tryd.prog 28 #[.pointer (some ⟨b, o, none⟩), .int .u32 (a : Int)] w fun e w' => e = .returned (.bool (F a)) ∧ Below w.heap.size w w' := by
  have hc := h.cell ho (a / 64) (by omega)
  have hbit := fun W => bit_any a W (by omega)
  have hne : (bits .and .u64 (xv (wordB F (a / 64))) (xv (oneB (a % 64))) != 0) = F a := by
    rw [xv_and, xv_ne, wordB_has]; simp
  have hidx : ((a : Int) / 64).toNat = a / 64 := by omega
  have hlt : (a : Int) / 64 < 64 := by omega
  have hge : (0 : Int) ≤ (a : Int) / 64 := by omega
  generalize xv (wordB F (a / 64)) = x at *
  rw [← hidx] at hc
  generalize xv (oneB (a % 64)) = y at *
  generalize F a = r at *
  have HB := Lib.hid hbit
  clear h hidx hbit ha
  go_enter Tryd.func28, Tryd.ntmps28
  go_wp2_with fail
  go_quiet ((go_at_call 34; exact Calls.quiet_of_same (HB.out _)))
  go_wp2_with fail
  go_ret
  exact ⟨rfl, ybelow_drewN (Below.refl _ _) _⟩
set_option maxHeartbeats 1000000 in
theorem add_any11 (b t o a : Nat) (pre : List Value) (F : Nat → Bool) (w : World) (h : SA w b t pre F) (ho : pre.length = o) (ha : a < 4096) :
    Calls Tryd.prog 31 #[.pointer (some ⟨b, o, none⟩), .int .u32 (a : Int)] w fun e w' => e = .returned (.tuple #[]) ∧ SA w' b t pre (updF F a true) ∧ Touch [b] w w' := by
  have hc := h.cell ho (a / 64) (by omega)
  have hf := h.free (o + a / 64)
  have hbit := fun W => bit_any a W (by omega)
  have hop : bits .or .u64 (xv (wordB F (a / 64))) (xv (oneB (a % 64))) = xv (wordB (updF F a true) (a / 64)) := by
    rw [xv_or, wordB_add]
  have hidx : ((a : Int) / 64).toNat = a / 64 := by omega
  have hlt : (a : Int) / 64 < 64 := by omega
  have hge : (0 : Int) ≤ (a : Int) / 64 := by omega
  have HST := Lib.hid (show SA (w.setCell ⟨b, o + a / 64, none⟩ (.int .u64 (xv (wordB (updF F a true) (a / 64))))) b t pre (updF F a true) ∧ Touch [b] w (w.setCell ⟨b, o + a / 64, none⟩ (.int .u64 (xv (wordB (updF F a true) (a / 64))))) from
    ⟨h.set ho a true ha, Touch.of_only ((Only.refl b w).setCell _ _) (by simp)⟩)
  generalize xv (wordB (updF F a true) (a / 64)) = z at *
  generalize xv (wordB F (a / 64)) = x at *
  generalize xv (oneB (a % 64)) = y at *
  rw [← hidx] at hc hf HST
  have HB := Lib.hid hbit
  clear h hidx hbit ha
  go_enter Tryd.func31, Tryd.ntmps31
  go_wp2_with fail
  refine wp_region_still_tail 11 (by kernel_rfl) (by kernel_rfl) ?_
  simp only [List.take_succ_cons, List.take_zero, List.drop_succ_cons, List.drop_zero]
  iterate 7 still_step
  still_call (HB.out _)
  iterate 3 still_step
  refine wpStill_nil ?_
  change wpList _ _ _ _ _ w.drew
  go_wp2_with fail
  go_end0
  exact ⟨rfl, HST.out.1, HST.out.2.trans (Touch.of_below (Below.refl _ _).drew)⟩
set_option maxHeartbeats 1000000 in
theorem drop_any11 (b t o a : Nat) (pre : List Value) (F : Nat → Bool) (w : World) (h : SA w b t pre F) (ho : pre.length = o) (ha : a < 4096) :
    Calls Tryd.prog 29 #[.pointer (some ⟨b, o, none⟩), .int .u32 (a : Int)] w fun e w' => e = .returned (.tuple #[]) ∧ SA w' b t pre (updF F a false) ∧ Touch [b] w w' := by
  have hc := h.cell ho (a / 64) (by omega)
  have hf := h.free (o + a / 64)
  have hbit := fun W => bit_any a W (by omega)
  have hop : bits .andNot .u64 (xv (wordB F (a / 64))) (xv (oneB (a % 64))) = xv (wordB (updF F a false) (a / 64)) := by
    rw [xv_andNot, wordB_drop]
  have hidx : ((a : Int) / 64).toNat = a / 64 := by omega
  have hlt : (a : Int) / 64 < 64 := by omega
  have hge : (0 : Int) ≤ (a : Int) / 64 := by omega
  have HST := Lib.hid (show SA (w.setCell ⟨b, o + a / 64, none⟩ (.int .u64 (xv (wordB (updF F a false) (a / 64))))) b t pre (updF F a false) ∧ Touch [b] w (w.setCell ⟨b, o + a / 64, none⟩ (.int .u64 (xv (wordB (updF F a false) (a / 64))))) from
    ⟨h.set ho a false ha, Touch.of_only ((Only.refl b w).setCell _ _) (by simp)⟩)
  generalize xv (wordB (updF F a false) (a / 64)) = z at *
  generalize xv (wordB F (a / 64)) = x at *
  generalize xv (oneB (a % 64)) = y at *
  rw [← hidx] at hc hf HST
  have HB := Lib.hid hbit
  clear h hidx hbit ha
  go_enter Tryd.func29, Tryd.ntmps29
  go_wp2_with fail
  refine wp_region_still_tail 11 (by kernel_rfl) (by kernel_rfl) ?_
  simp only [List.take_succ_cons, List.take_zero, List.drop_succ_cons, List.drop_zero]
  iterate 7 still_step
  still_call (HB.out _)
  iterate 3 still_step
  refine wpStill_nil ?_
  change wpList _ _ _ _ _ w.drew
  go_wp2_with fail
  go_end0
  exact ⟨rfl, HST.out.1, HST.out.2.trans (Touch.of_below (Below.refl _ _).drew)⟩
end Go.Proofs.YtpeemnkhcgapnaaDoor
