/-
  Blocks sealed: whether bytes fit a pointer, of both.
-/
import Derived.Test.YtfgdddejpdjllaaDoorEa
namespace Go.Proofs.YtfgdddejpdjllaaDoor
set_option maxRecDepth 4000
set_option linter.unusedVariables false
open Go.ChangeShapes Go.WideShapes Go.ChangeAt Go.RowKit

def fitsB (P : PtrV) (l : List Int) : Bool := decide (l.length = 512) && decide (hashS l = P.su)
theorem size_hash (l : List Int) (h : l.length = 32) : (Tryd.prog.info? 26).map (·.size) = some (l.map (Value.int .u8)).length := by
  rw [show (Tryd.prog.info? 26).map (·.size) = some 32 by kernel_rfl, List.length_map, h]
theorem eq_sums (l : List Int) (P : PtrV) (W : World) : (Op.equalIn 10000 26 (.agg (u8s (hashS l))) (.agg (P.su.map (Value.int .u8)).toArray)).run Tryd.prog W = .ok (decide (hashS l = P.su)) W :=
  eq_hash _ _ (hashS_length l) P.s0.1 (hashS_byt l) P.s0.2 W
set_option maxRecDepth 100000 in
set_option maxHeartbeats 1600000 in
theorem pfits_any (P : PtrV) (l : List Int) (ad : Option Addr) (n cap : Nat) (w : World) (hK : KT w) (hB : BS w (.slice ad n cap) l) (hl : l.length = n) (hc : n ≤ cap) (hc63 : cap ≤ 9223372036854775807) :
    Calls Tryd.prog 20 #[.agg (ptrRow P).toArray, .slice ad n cap] w fun e w' => e = .returned (.bool (fitsB P l)) ∧ Below w.heap.size w w' := by
  have hb1 := (Below.refl w.heap.size w).alloc (Nat.le_refl _) (.cells (ptrRow P).toArray 41)
  have hA1 := heap_alloc_new w (.cells (ptrRow P).toArray 41)
  have HRG := Lib.hid (by_range (ptr_at hA1).2.2)
  have SH := Lib.hid (size_hash P.su P.s0.1)
  unfold fitsB
  rw [hl]
  by_cases h : n = 512
  · have HSM := Lib.hid (fun p : BelowBy (w.alloc (.cells (ptrRow P).toArray 41)) => shasum_any l (.slice ad n cap) p.now (hK.below (hb1.trans (p.bel.mono hb1.size)) hK.pos) (hB.kept (hb1.trans (p.bel.mono hb1.size))) (room_of _ _ _ hc hc63) (by rw [hl, h]; decide))
    have heq := eq_sums l P
    rw [decide_eq_true h, Bool.true_and]
    subst h
    have HB1 := Lib.hid hb1
    clear hb1 hA1 hl hc hc63 hB
    generalize (P.su.map (Value.int .u8)) = SU at *
    generalize u8s (hashS l) = HU at *
    generalize decide (hashS l = P.su) = D at *
    generalize (ptrRow P).toArray = PR at *
    generalize hw1 : w.alloc (.cells PR 41) = w1 at *
    go_enter Tryd.func20, Tryd.ntmps20
    go_upto_region 1 with fail
    try rw [hw1]
    clear hw1
    refine wp_region_below (by kernel_rfl) (by kernel_rfl) ?_
    repeat (first
      | (with_reducible refine quiet_load_row (o := ⟨some 12, _, _, _, _, _⟩) (by kernel_rfl) 26 _ rfl w.heap.size 2 rfl SU _ HRG.out Tryd.underlying26 rfl SH.out ?_
         simp only [Act.put, List.setIfInBounds_toArray, List.set_cons_zero, List.set_cons_succ])
      | (go_big_quiet_step (first
          | (go_at_call 19; exact calls_below (HSM.out _)))))
    refine wpQuiet_nil ?_
    intro _ hw'
    obtain ⟨p, hw''⟩ := hw'
    subst hw''
    go_wp2_with fail
    go_ret
    exact ⟨by simp, HB1.out.trans (p.bel.mono HB1.out.size)⟩
  · rw [decide_eq_false h, Bool.false_and]
    have hzi : ((n : Int) == 512) = false := by simp; omega
    have HB1 := Lib.hid hb1
    clear hb1 hA1 hl hc hc63 hB h HRG
    generalize (ptrRow P).toArray = PR at *
    generalize hw1 : w.alloc (.cells PR 41) = w1 at *
    go_enter Tryd.func20, Tryd.ntmps20
    go_upto_region 1 with fail
    try rw [hw1]
    clear hw1
    refine wp_region_below (by kernel_rfl) (by kernel_rfl) ?_
    repeat (go_big_quiet_step (fail))
    refine wpQuiet_nil ?_
    intro _ hw'
    obtain ⟨p, hw''⟩ := hw'
    subst hw''
    go_wp2_with fail
    go_ret
    exact ⟨by simp, HB1.out.trans (p.bel.mono HB1.out.size)⟩
set_option maxRecDepth 100000 in
set_option maxHeartbeats 1600000 in
theorem rfits_any (P : PtrV) (l : List Int) (ad : Option Addr) (n cap : Nat) (w : World)  (hB : BS w (.slice ad n cap) l) (hl : l.length = n) (hc : n ≤ cap) (hc63 : cap ≤ 9223372036854775807) :
    Calls Tryd.prog 21 #[.agg (ptrRow P).toArray, .slice ad n cap] w fun e w' => e = .returned (.bool (fitsB P l)) ∧ Below w.heap.size w w' := by
  have hb1 := (Below.refl w.heap.size w).alloc (Nat.le_refl _) (.cells (ptrRow P).toArray 41)
  have hA1 := heap_alloc_new w (.cells (ptrRow P).toArray 41)
  have HRG := Lib.hid (by_range (ptr_at hA1).2.2)
  have SH := Lib.hid (size_hash P.su P.s0.1)
  unfold fitsB
  rw [hl]
  by_cases h : n = 512
  · have HSM := Lib.hid (fun p : BelowBy (w.alloc (.cells (ptrRow P).toArray 41)) => rsum_any l (.slice ad n cap) p.now (hB.kept (hb1.trans (p.bel.mono hb1.size))) (by rw [hl, h]; decide))
    have heq := eq_sums l P
    rw [decide_eq_true h, Bool.true_and]
    subst h
    have HB1 := Lib.hid hb1
    clear hb1 hA1 hl hc hc63 hB
    generalize (P.su.map (Value.int .u8)) = SU at *
    generalize u8s (hashS l) = HU at *
    generalize decide (hashS l = P.su) = D at *
    generalize (ptrRow P).toArray = PR at *
    generalize hw1 : w.alloc (.cells PR 41) = w1 at *
    go_enter Tryd.func21, Tryd.ntmps21
    go_upto_region 1 with fail
    try rw [hw1]
    clear hw1
    refine wp_region_below (by kernel_rfl) (by kernel_rfl) ?_
    repeat (first
      | (with_reducible refine quiet_load_row (o := ⟨some 12, _, _, _, _, _⟩) (by kernel_rfl) 26 _ rfl w.heap.size 2 rfl SU _ HRG.out Tryd.underlying26 rfl SH.out ?_
         simp only [Act.put, List.setIfInBounds_toArray, List.set_cons_zero, List.set_cons_succ])
      | (go_big_quiet_step (first
          | (go_at_call 33; exact calls_below (HSM.out _)))))
    refine wpQuiet_nil ?_
    intro _ hw'
    obtain ⟨p, hw''⟩ := hw'
    subst hw''
    go_wp2_with fail
    go_ret
    exact ⟨by simp, HB1.out.trans (p.bel.mono HB1.out.size)⟩
  · rw [decide_eq_false h, Bool.false_and]
    have hzi : ((n : Int) == 512) = false := by simp; omega
    have HB1 := Lib.hid hb1
    clear hb1 hA1 hl hc hc63 hB h HRG
    generalize (ptrRow P).toArray = PR at *
    generalize hw1 : w.alloc (.cells PR 41) = w1 at *
    go_enter Tryd.func21, Tryd.ntmps21
    go_upto_region 1 with fail
    try rw [hw1]
    clear hw1
    refine wp_region_below (by kernel_rfl) (by kernel_rfl) ?_
    repeat (go_big_quiet_step (fail))
    refine wpQuiet_nil ?_
    intro _ hw'
    obtain ⟨p, hw''⟩ := hw'
    subst hw''
    go_wp2_with fail
    go_ret
    exact ⟨by simp, HB1.out.trans (p.bel.mono HB1.out.size)⟩
end Go.Proofs.YtfgdddejpdjllaaDoor
