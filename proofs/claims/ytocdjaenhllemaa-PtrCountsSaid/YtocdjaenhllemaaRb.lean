/-
  A pointer's bytes in the document's answer.
-/
import Derived.Test.YtocdjaenhllemaaPg
import Derived.StillTailTactics
namespace Go.Proofs.Ytocdjaenhllemaa
set_option maxRecDepth 4000
open Go.ChangeShapes Go.WideShapes Go.ChangeAt Go.RowKit

theorem own_below8 {B n k : Nat} {e : TypeId} {v : Value} {xs : List Value} {w w' : World} (h : w.ownsRow B e k v n xs) (hb : Below w.heap.size w w') : w'.ownsRow B e k v n xs :=
  h.kept (row := none) ⟨hb.os, hb.tape, hb.output, hb.size, fun j hj _ => hb.block j hj⟩ (by by_cases q : v.ownBlock = none; exact .inl q; exact .inr q)
set_option maxHeartbeats 800000 in
theorem rbytes8_any (x : Int) (n : Nat) (w : World) (h2 : n ≤ 8) (h0 : 0 ≤ x) (h1 : x < 18446744073709551616) (h3 : x / 256 ^ n = 0) :
    Calls Try.prog 36 #[.int .u64 x, .int .i64 n] w fun e w' => e = .returned (.slice (some ⟨w.heap.size, 0, none⟩) n n) ∧ w'.ownsRow w.heap.size 5 1 (.slice (some ⟨w.heap.size, 0, none⟩) n n) n ((putI x n).map (.int .u8)) ∧ Below w.heap.size w w' := by
  have HP := Lib.hid (rput_loop x n w h2 h0 h1)
  have H3 := Lib.hid h3
  clear h0 h1 h2 h3
  go_enter Try.func36, Try.ntmps36
  go_wp2_with fail
  refine HP.out.mono ?_
  rintro e w' ⟨hb, h | h⟩
  · obtain ⟨_, rfl, ho⟩ := h
    have HO := Lib.hid ho
    clear ho
    go_wp2_with fail
    go_ret
    exact ⟨rfl, HO.out, hb⟩
  · exact absurd H3.out h.1
set_option maxRecDepth 100000 in
set_option maxHeartbeats 3200000 in
theorem rptrb_any (q : PtrV) (w : World) :
    Calls Try.prog 26 #[.agg (ptrRow q).toArray] w fun e w' => ∃ a c, e = .returned (.slice a 44 c) ∧ 44 ≤ c ∧ BS w' (.slice a 44 c) (ptrB q) ∧ Below w.heap.size w w' := by
  have hb := (Below.refl w.heap.size w).alloc (Nat.le_refl _) (.cells (ptrRow q).toArray 35)
  have hA := heap_alloc_new w (.cells (ptrRow q).toArray 35)
  obtain ⟨c0, c1, c2⟩ := ptr_at hA
  have ha := q.a0
  have hq := q.b0
  have HC1 := Lib.hid (fun W => rbytes8_any q.ad 4 W (by omega) ha.1 (by omega) (Int.ediv_eq_zero_of_lt ha.1 (by omega)))
  have HC2 := Lib.hid (fun W => rbytes8_any q.bi 8 W (by omega) hq.1 (by omega) (Int.ediv_eq_zero_of_lt hq.1 (by omega)))
  have HWR := Lib.hid (show IntKind.u64.wrap q.ad = q.ad from IntWalk.u64_in _ (by omega))
  have HPB := Lib.hid (show ptrB q = putI q.ad 4 ++ (putI q.bi 8 ++ q.su) from rfl)
  have HPL := Lib.hid (And.intro (ptrB_length q) (ptrB_byt q))
  have HSU := Lib.hid q.s0
  have HB0 := Lib.hid hb
  have hT : w.heap.size < (w.alloc (.cells (ptrRow q).toArray 35)).heap.size := by simp
  have hS : ∀ W : World, Below (w.alloc (.cells (ptrRow q).toArray 35)).heap.size (w.alloc (.cells (ptrRow q).toArray 35)) W → W.cell? ⟨w.heap.size, 0, none⟩ = some (.int .u32 q.ad) ∧ W.cell? ⟨w.heap.size, 1, none⟩ = some (.int .u64 q.bi) :=
    fun W hb => ⟨(hb.cell hT).trans c0, (hb.cell hT).trans c1⟩
  have HS := Lib.hid hS
  have HS2 := Lib.hid (show ∀ W : World, Below (w.alloc (.cells (ptrRow q).toArray 35)).heap.size (w.alloc (.cells (ptrRow q).toArray 35)) W → BS W (.slice (some ⟨w.heap.size, 2, none⟩) 32 32) q.su from fun W hb =>
    ⟨some ⟨w.heap.size, 2, none⟩, 32, by rw [q.s0.1], q.s0.2, nofun, .inr ⟨w.heap.size, 2, rfl, fun i hi => by
      rw [hb.cell hT]
      exact c2 i _ (by rw [List.getElem?_map, List.getElem?_eq_getElem hi]; simp [List.getD, hi])⟩⟩)
  have hsl := slice_hash_mid w.heap.size 2
  clear hb hA hT hS c0 c1 c2 ha hq
  generalize ptrB q = PB at *
  generalize (ptrRow q).toArray = AR at *
  generalize q.ad = ad at *
  generalize q.bi = bi at *
  generalize q.su = su at *
  go_enter Try.func26, Try.ntmps26
  go_upto_region 1 with fail
  generalize w.alloc (.cells AR 35) = w1 at *
  try simp only [Act.put]
  refine wp_region_noPanic ?_
  refine wp_region_held_drew (S := fun W => W.cell? ⟨w.heap.size, 0, none⟩ = some (.int .u32 ad) ∧ W.cell? ⟨w.heap.size, 1, none⟩ = some (.int .u64 bi)) (by kernel_rfl) (HS.out _ (Below.refl _ w1).drew) (fun hHeld => ?_)
  refine wpAnyH_take (i := 0) (oi := ⟨some 4, _, _, _, _, _⟩) (v := ?_) rfl (by kernel_rfl) (by decide +kernel) (by decide +kernel) (fun _ _ _ h => h) (Or.inl ⟨by rfl, ?_⟩) (by assumption) ?_
  rotate_left 1
  · (intro w' hSw; go_simp; try with_reducible rfl)
  try simp only [Act.put, List.setIfInBounds_toArray, List.set_cons_zero, List.set_cons_succ]
  refine wpAnyH_take (i := 1) (oi := ⟨some 5, _, _, _, _, _⟩) (v := ?_) rfl (by kernel_rfl) (by decide +kernel) (by decide +kernel) (fun _ _ _ h => h) (Or.inl ⟨by rfl, ?_⟩) (by assumption) ?_
  rotate_left 1
  · (intro w' hSw; obtain ⟨hc0, hc1⟩ := hSw; go_simp; try with_reducible rfl)
  try simp only [Act.put, List.setIfInBounds_toArray, List.set_cons_zero, List.set_cons_succ]
  have hwr := HWR.out
  refine wpAnyH_take (i := 2) (oi := ⟨some 6, _, _, _, _, _⟩) (v := ?_) rfl (by kernel_rfl) (by decide +kernel) (by decide +kernel) (fun _ _ _ h => h) (Or.inl ⟨by rfl, ?_⟩) (by assumption) ?_
  rotate_left 1
  · (intro w' hSw; go_simp; try with_reducible rfl)
  try simp only [Act.put, List.setIfInBounds_toArray, List.set_cons_zero, List.set_cons_succ]
  clear hwr
  refine wpAnyH_take (i := 4) (oi := ⟨some 8, _, _, _, _, _⟩) (v := ?_) rfl (by kernel_rfl) (by decide +kernel) (by decide +kernel) (fun _ _ _ h => h) (Or.inl ⟨by rfl, ?_⟩) (by assumption) ?_
  rotate_left 1
  · (intro w' hSw; go_simp; try with_reducible rfl)
  try simp only [Act.put, List.setIfInBounds_toArray, List.set_cons_zero, List.set_cons_succ]
  refine wpAnyH_take (i := 5) (oi := ⟨some 9, _, _, _, _, _⟩) (v := ?_) rfl (by kernel_rfl) (by decide +kernel) (by decide +kernel) (fun _ _ _ h => h) (Or.inl ⟨by rfl, ?_⟩) (by assumption) ?_
  rotate_left 1
  · (intro w' hSw; obtain ⟨hc0, hc1⟩ := hSw; go_simp; try with_reducible rfl)
  try simp only [Act.put, List.setIfInBounds_toArray, List.set_cons_zero, List.set_cons_succ]
  refine wpAnyH_ready (rs := [3]) (by decide +kernel) (by simp) ?_
  refine AllReadyH.cons rfl (fun K hK => ?_) AllReadyH.nil
  go_simp
  go_at_call 36
  refine (HC1.out _).mono ?_
  rintro e w3 ⟨rfl, ho3, hb3⟩
  have HB3 := Lib.hid (show Below w1.heap.size w1 w3 from (Below.refl _ w1).drew.trans hb3)
  have HO3 := Lib.hid (show w3.ownsRow w1.heap.size 5 1 (.slice (some ⟨w1.heap.size, 0, none⟩) 4 4) 4 ((putI ad 4).map (.int .u8)) from ho3)
  clear ho3 hb3 hHeld
  go_wp2_with fail
  refine hK.out _ _ (HS.out _ HB3.out) (fun hHeld => ?_)
  clear hK K
  try simp only [Act.put, List.setIfInBounds_toArray, List.set_cons_zero, List.set_cons_succ]
  refine wpAnyH_ready (rs := [6]) (by decide +kernel) (by simp) ?_
  refine AllReadyH.cons rfl (fun K hK => ?_) AllReadyH.nil
  go_simp
  go_at_call 36
  refine (HC2.out _).mono ?_
  rintro e w4 ⟨rfl, ho4, hb4⟩
  have HB4 := Lib.hid (HB3.out.trans (hb4.mono HB3.out.size))
  have HO4 := Lib.hid (own_below8 HO3.out hb4)
  have HX4 := Lib.hid (BS.of_own ho4 (putI_length bi 8) (putI_byt bi 8))
  clear ho4 hb4 hHeld
  go_wp2_with fail
  refine hK.out _ _ (HS.out _ HB4.out) (fun hHeld => ?_)
  clear hK K
  try simp only [Act.put, List.setIfInBounds_toArray, List.set_cons_zero, List.set_cons_succ]
  clear hHeld
  obtain ⟨v5, w5, hr5, ho5, hg5, hn5⟩ := run_append_BS_at w4 w1.heap.size 4 _ _ _ _ HO4.out HX4.out (by rw [putI_length]; omega) HB4.out.size
  rw [putI_length, ← List.map_append] at ho5
  have HB5 := Lib.hid (HB4.out.grown hg5 HB4.out.size (by intro k hk; simp [Value.ownBlock] at hk; omega))
  have HO5 := Lib.hid ho5
  have HN5 := Lib.hid (show ∀ g, v5.ownBlock = some g → w1.heap.size ≤ g from fun g hg => (ho5.lt g hg).1)
  refine wpAnyH_ready (rs := [7]) (by decide +kernel) (by simp) ?_
  refine AllReadyH.cons rfl (fun K hK => ?_) AllReadyH.nil
  rw [if_pos (by kernel_rfl)]
  refine wp_append_run7 (o := ⟨some 11, _, _, _, _, _⟩) (.tmp 7) (.tmp 10) 46 46 rfl _ _ _ _ rfl rfl hr5 ?_
  clear hr5 ho5 hg5 hn5
  refine hK.out _ _ (HS.out _ HB5.out) (fun hHeld => ?_)
  clear hK K
  try simp only [Act.put, List.setIfInBounds_toArray, List.set_cons_zero, List.set_cons_succ]
  refine wpAnyH_take (i := 8) (oi := ⟨some 3, _, _, _, _, _⟩) (v := ?_) rfl (by kernel_rfl) (by decide +kernel) (by decide +kernel) (fun _ _ _ h => h) (Or.inl ⟨by rfl, ?_⟩) (by assumption) ?_
  rotate_left 1
  · (intro w' hSw; go_simp; try with_reducible rfl)
  try simp only [Act.put, List.setIfInBounds_toArray, List.set_cons_zero, List.set_cons_succ]
  clear hHeld
  refine wpAnyH_done (by decide +kernel) ?_ _
  refine NoPanic.normal ?_
  have HBS5 := Lib.hid (HS2.out _ HB5.out)
  obtain ⟨v6, w6, hr6, ho6, hg6, _⟩ := run_append_BS_at w5 w1.heap.size 12 _ _ _ _ HO5.out HBS5.out (by rw [HSU.out.1]; omega) HB5.out.size
  rw [HSU.out.1, ← List.map_append, List.append_assoc, ← HPB.out] at ho6
  obtain ⟨a6, c6, rfl, hc6, hb6⟩ := own_bs ho6 HPL.out.1 HPL.out.2
  have HR6 := Lib.hid hr6
  have HX6 := Lib.hid (And.intro hc6 hb6)
  have HB6 := Lib.hid (HB0.out.trans ((HB5.out.grown hg6 HB5.out.size (fun k hk => HN5.out k hk)).mono HB0.out.size))
  obtain ⟨a5, c5, rfl, _, _⟩ := own_bs HO5.out (by rw [List.length_append, putI_length, putI_length]) (fun z hz => by rcases List.mem_append.1 hz with h | h; exact putI_byt _ _ z h; exact putI_byt _ _ z h)
  clear hr6 ho6 hg6 hc6 hb6 HBS5 HO5 HN5 HB5 HB4 HB3 HO3 HO4 HX4 HC1 HC2 HS HS2
  go_wp2_with (first
    | (at_builtin; refine wpList_append_run (o := ⟨some 15, _, _, _, _, _⟩) rfl _ _ _ _ rfl _ _ _ _ rfl rfl HR6.out ?_))
  go_ret
  exact ⟨_, _, rfl, HX6.out.1, HX6.out.2, HB6.out⟩
end Go.Proofs.Ytocdjaenhllemaa
