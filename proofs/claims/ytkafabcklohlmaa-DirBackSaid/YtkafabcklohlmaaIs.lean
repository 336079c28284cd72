/-
  Datasets as keys and values: the document's Put. (Written by tools/XIs.make.py.)
-/
import Derived.Test.YtkafabcklohlmaaIr
namespace Go.Proofs.Ytkafabcklohlmaa
set_option maxRecDepth 4000
set_option linter.unusedVariables false
open Go.ChangeShapes Go.WideShapes Go.ChangeAt Go.RowKit

/-- Bytes of one's own since w0. -/
def OBy (w0 w : World) (v : Value) (l : List Int) : Prop := w.ownsRow w0.heap.size 5 1 v l.length (l.map (Value.int .u8)) ∧ Below w0.heap.size w0 w
theorem OBy.below {w0 w w' : World} {v : Value} {l : List Int} (h : OBy w0 w v l) (b : Below w.heap.size w w') : OBy w0 w' v l := ⟨own_below8 h.1 b, bt15 h.2 b⟩
theorem oby_app {w0 w : World} {v vx : Value} {l m : List Int} (h : OBy w0 w v l) (hB : BS w vx m) (hl : l.length + m.length ≤ 100000) :
    ∃ v' w', (Builtin.append_ #[64, 64] 64 #[v, vx]).run Try.prog w = .ok v' w' ∧ OBy w0 w' v' (l ++ m) := by
  obtain ⟨v', w', h1, h2, h3⟩ := run_append_BS7 w w0.heap.size l.length v vx (l.map (Value.int .u8)) m h.1 hB (by omega) h.2.size
  refine ⟨v', w', h1, ?_, h.2.grown h3 h.2.size (fun k hk => (World.ownsRow.lt h.1 k hk).1)⟩
  rw [← List.map_append, ← List.length_append] at h2
  exact h2
theorem oby_one (w0 : World) (k : Int) : OBy w0 (w0.alloc (.cells #[.int .u8 k] 5)) (.slice (some ⟨w0.heap.size, 0, none⟩) 1 1) [k] :=
  ⟨⟨rfl, .inr ⟨w0.heap.size, 1, #[.int .u8 k], rfl, Nat.le_refl _, heap_alloc_new w0 _, Nat.le_refl _, by decide, rfl, rfl⟩⟩, ba15 w0 _⟩
theorem rt_of_set {w : World} {X : Nat} {s : SetV} (h : w.rangeAt X 0 (setRow s)) : w.cell? ⟨X, 1, none⟩ = some (.string s.fr) ∧ w.rangeAt X 3 (ptrRow s.rt) := by
  obtain ⟨_, h2, _, h4⟩ := set_range h
  rw [Nat.zero_add] at h2 h4
  exact ⟨h2, h4⟩
set_option maxRecDepth 100000 in
set_option maxHeartbeats 3200000 in
theorem rput15 (s : SetV) (ho : SetOk s) (w : World) : Calls Try.prog 20 #[.agg (setRow s).toArray] w fun e w' => KvPost w (putD s) e w' := by
  have HC := Lib.hid (fun W => rcheck15 s ho W)
  obtain ⟨AR, har⟩ := setR s
  rw [har.eq] at HC ⊢
  have HAR := Lib.hid har
  have HO := Lib.hid ho
  obtain ⟨hx, hr, hb⟩ := kv_rows w AR (.cells #[.string ⟨#[]⟩, .string ⟨#[]⟩] 45)
  have HX := Lib.hid hx
  have HR := Lib.hid hr
  have HB := Lib.hid hb
  clear har hx hr hb ho
  go_enter Try.func20, Try.ntmps20
  go_upto_region 1 with fail
  generalize World.alloc (World.alloc w (.cells AR 38)) (.cells #[.string ⟨#[]⟩, .string ⟨#[]⟩] 45) = w1 at *
  have HRW := Lib.hid (show w.heap.size ≤ w.heap.size + 1 by omega)
  have HRL := Lib.hid (lt_of_block HR.out)
  have HXL := Lib.hid (lt_of_block HX.out)
  generalize hRR : w.heap.size + 1 = R at *
  generalize hXX : w.heap.size = X at *
  have HXS := Lib.hid (show X ≤ w1.heap.size from hXX ▸ HB.out.size)
  clear hRR
  cases hok : okS s with
  | false =>
    have HE := Lib.hid (show putD s = ((noS, noS), 4) by unfold putD; rw [hok]; rfl)
    have hck : checkS s = 4 := by unfold checkS; rw [hok]; rfl
    rw [hck] at HC
    clear hok hck
    go_wp2_with (first
      | (with_reducible refine wpList_load_row (o := ⟨some 6, _, _, _, _, _⟩) rfl 38 _ rfl X rfl 38 AR (0, 0) _ HX.out Try.underlying38 rfl HAR.out.sz ?_))
    refine (HC.out _).mono ?_
    rintro e w2 ⟨rfl, hb2⟩
    have HB2 := Lib.hid (HB.out.trans (hb2.mono HXS.out))
    have HR2 := Lib.hid ((hb2.block _ HRL.out).trans HR.out)
    clear hb2
    go_wp2_with (first
      | (with_reducible refine wpList_store_row (o := ⟨none, .store _ (.tmp 2) _, _, _, _, _⟩) rfl 45 _ _ rfl R #[.string ⟨#[]⟩, .string ⟨#[]⟩] rfl rfl 45 #[.string ⟨#[]⟩, .string ⟨#[]⟩] HR2.out (size_kv _ _) (kv_sz _ _ _ _) (kv_one _ _) ?_))
    refine bodyPost_ret (v := .tuple #[.agg #[.string ⟨#[]⟩, .string ⟨#[]⟩], .int .i64 4]) (results_cell_two Try.results20 _ _ R 45 #[.string ⟨#[]⟩, .string ⟨#[]⟩] (0, 0) _ rfl (setRow_heap _ R _ #[.string ⟨#[]⟩, .string ⟨#[]⟩] _ _ HR2.out) Try.underlying45 rfl (size_kv _ _) _ (by simp)) rfl ?_
    exact ⟨by rw [HE.out]; rfl, by rw [hXX]; exact ybelow_row HB2.out HRW.out _⟩
  | true =>
    have HE := Lib.hid (show putD s = ((s.nm, putV s), 0) by unfold putD; rw [hok]; rfl)
    have hck : checkS s = 0 := by unfold checkS; rw [hok]; rfl
    rw [hck] at HC
    have hp := (ok_parts hok).1
    have HFR := Lib.hid hp
    clear hok hck hp
    go_wp2_with (first
      | (with_reducible refine wpList_load_row (o := ⟨some 6, _, _, _, _, _⟩) rfl 38 _ rfl X rfl 38 AR (0, 0) _ HX.out Try.underlying38 rfl HAR.out.sz ?_))
    refine (HC.out _).mono ?_
    rintro e w2 ⟨rfl, hb2⟩
    have HB2 := Lib.hid (HB.out.trans (hb2.mono HXS.out))
    have HXS2 := Lib.hid (Nat.le_trans HXS.out hb2.size)
    have HR2 := Lib.hid ((hb2.block _ HRL.out).trans HR.out)
    have HX2 := Lib.hid ((hb2.block _ HXL.out).trans HX.out)
    have HRX := Lib.hid (show ∀ W, Below w2.heap.size w2 W → W.rangeAt X 0 (setRow s) from fun W hW => by have h := (hW.block _ (lt_of_block HX2.out)).trans HX2.out; rw [← HAR.out.eq] at h; exact range_of_row h)
    clear hb2 HC HB HR HX
    go_upto_region 5 with fail
    obtain ⟨PR, hPR⟩ : ∃ z, (ptrRow s.rt).toArray = z := ⟨_, rfl⟩
    have HPR := Lib.hid hPR
    clear hPR
    cases hsn : s.sn with
    | true =>
      have HK := Lib.hid (show kB s = 2 by unfold kB; rw [hsn]; rfl)
      have HOB := Lib.hid (oby_one w2 2)
      have hba := ba15 w2 (.cells #[.int .u8 1] 5)
      have hnw := new15 w2 (.cells #[.int .u8 1] 5)
      have d2 := (set_range (HRX.out _ hba)).2.2.1
      rw [hsn, Nat.zero_add] at d2
      have hfz := frozen_of_row _ w2.heap.size 0 _ _ hnw
      have e0 := cell_of_row _ w2.heap.size 0 _ _ _ hnw
      clear hsn hnw hba
      go_upto_region 7 with fail
      generalize (World.alloc w2 (.cells #[.int .u8 2] 5)) = w3 at *
      try clear d2 hfz e0
      obtain ⟨g, hg⟩ : ∃ z, w2.heap.size = z := ⟨_, rfl⟩
      rw [hg] at HOB ⊢
      clear hg
      have HS3 := Lib.hid (HRX.out _ HOB.out.2)
      have HOD := Lib.hid (HOB.out.below (Below.refl _ w3).drew)
      have HST := Lib.hid (rstr7_any s.fr w3.drew (by have := HFR.out; omega))
      try simp only [Act.put]
      refine wp_region_noPanic ?_
      refine wp_region_held_drew (S := fun W => W.rangeAt X 0 (setRow s)) (by kernel_rfl) (range_below HS3.out (Below.refl _ w3).drew) (fun hHeld => ?_)
      refine wpAnyH_take (i := 0) (oi := ⟨some 17, _, _, _, _, _⟩) (v := ?_) rfl (by kernel_rfl) (by decide +kernel) (by decide +kernel) (fun _ _ _ h => h) (Or.inl ⟨by rfl, ?_⟩) (by assumption) ?_
      rotate_left 1
      · (intro w' hSw; go_simp; try with_reducible rfl)
      try simp only [Act.put, List.setIfInBounds_toArray, List.set_cons_zero, List.set_cons_succ]
      refine wpAnyH_take (i := 1) (oi := ⟨some 18, _, _, _, _, _⟩) (v := ?_) rfl (by kernel_rfl) (by decide +kernel) (by decide +kernel) (fun _ _ _ h => h) (Or.inl ⟨by rfl, ?_⟩) (by assumption) ?_
      rotate_left 1
      · (intro w' hSw; go_simp; try with_reducible rfl)
      try simp only [Act.put, List.setIfInBounds_toArray, List.set_cons_zero, List.set_cons_succ]
      refine wpAnyH_take (i := 2) (oi := ⟨some 19, _, _, _, _, _⟩) (v := ?_) rfl (by kernel_rfl) (by decide +kernel) (by decide +kernel) (fun _ _ _ h => h) (Or.inl ⟨by rfl, ?_⟩) (by assumption) ?_
      rotate_left 1
      · (intro w' hSw; have hq := (rt_of_set hSw).1; clear hSw; go_simp; try with_reducible rfl)
      try simp only [Act.put, List.setIfInBounds_toArray, List.set_cons_zero, List.set_cons_succ]
      refine wpAnyH_take (i := 5) (oi := ⟨some 22, _, _, _, _, _⟩) (v := ?_) rfl (by kernel_rfl) (by decide +kernel) (by decide +kernel) (fun _ _ _ h => h) (Or.inl ⟨by rfl, ?_⟩) (by assumption) ?_
      rotate_left 1
      · (intro w' hSw; go_simp; try with_reducible rfl)
      try simp only [Act.put, List.setIfInBounds_toArray, List.set_cons_zero, List.set_cons_succ]
      refine wpAnyH_take (i := 6) (oi := ⟨some 23, _, _, _, _, _⟩) rfl (by kernel_rfl) (by decide +kernel) (by decide +kernel) (fun _ _ _ h => h) (yieldsIf_load_mid (by rfl) _ _ rfl X 3 rfl (ptrRow s.rt) _ (fun w' h => (rt_of_set h).2) Try.underlying36 rfl (size_ptr _)) (by assumption) ?_
      try simp only [Act.put, List.setIfInBounds_toArray, List.set_cons_zero, List.set_cons_succ]
      rw [show (ptrRow s.rt).toArray = PR from HPR.out]
      refine wpAnyH_ready (rs := [3]) (by decide +kernel) (by simp) ?_
      refine AllReadyH.cons rfl (fun K hK => ?_) AllReadyH.nil
      go_simp
      refine HST.out.mono ?_
      rintro e w4 ⟨a4, c4, rfl, ho4, hb4⟩
      have HO4 := Lib.hid (HOD.out.below hb4)
      obtain ⟨a5, c5, he5, _, hbs5⟩ := own_bs ho4 (by rw [List.length_cons, btxt_length, Nat.add_comm]) (by intro z hz; rcases List.mem_cons.1 hz with rfl | hz; have := HFR.out; omega; exact btxt_byt _ z hz)
      obtain ⟨v6, w6, hr6, ho6⟩ := oby_app HO4.out (he5 ▸ hbs5) (by simp [btxt_length]; have := HFR.out; omega)
      have HR6 := Lib.hid hr6
      have HO6 := Lib.hid ho6
      clear hr6 ho6 he5 hbs5 ho4 hb4 HST HOD
      go_wp2_with fail
      refine hK.out _ _ (HRX.out _ HO4.out.2) (fun hHeld => ?_)
      clear hK K
      try simp only [Act.put, List.setIfInBounds_toArray, List.set_cons_zero, List.set_cons_succ]
      refine wpAnyH_ready (rs := [4]) (by decide +kernel) (by simp) ?_
      refine AllReadyH.cons rfl (fun K hK => ?_) AllReadyH.nil
      refine wp_append_run7 (o := ⟨some 21, _, _, _, _, _⟩) _ _ _ _ rfl _ _ _ _ rfl rfl HR6.out ?_
      refine hK.out _ _ (HRX.out _ HO6.out.2) (fun hHeld => ?_)
      clear hK K
      try simp only [Act.put, List.setIfInBounds_toArray, List.set_cons_zero, List.set_cons_succ]
      have HPB := Lib.hid (rptrb_any s.rt w6)
      rw [show (ptrRow s.rt).toArray = PR from HPR.out] at HPB
      refine wpAnyH_ready (rs := [7]) (by decide +kernel) (by simp) ?_
      refine AllReadyH.cons rfl (fun K hK => ?_) AllReadyH.nil
      go_simp
      refine HPB.out.mono ?_
      rintro e w7 ⟨a7, c7, rfl, _, hbs7, hb7⟩
      have HO7 := Lib.hid (HO6.out.below hb7)
      obtain ⟨v8, w8, hr8, ho8⟩ := oby_app HO7.out hbs7 (by simp [btxt_length, ptrB_length]; have := HFR.out; omega)
      have HR8 := Lib.hid hr8
      have HO8 := Lib.hid (show OBy w2 w8 v8 (setB s) by unfold setB; rw [HK.out]; exact ho8)
      clear hr8 ho8 hbs7 hb7 HPB HR6
      go_wp2_with fail
      refine hK.out _ _ (HRX.out _ HO7.out.2) (fun hHeld => ?_)
      clear hK K
      try simp only [Act.put, List.setIfInBounds_toArray, List.set_cons_zero, List.set_cons_succ]
      refine wpAnyH_ready (rs := [8]) (by decide +kernel) (by simp) ?_
      refine AllReadyH.cons rfl (fun K hK => ?_) AllReadyH.nil
      refine wp_append_run7 (o := ⟨some 25, _, _, _, _, _⟩) _ _ _ _ rfl _ _ _ _ rfl rfl HR8.out ?_
      refine hK.out _ _ (HRX.out _ HO8.out.2) (fun hHeld => ?_)
      clear hK K
      try simp only [Act.put, List.setIfInBounds_toArray, List.set_cons_zero, List.set_cons_succ]
      refine wpAnyH_take (i := 9) (oi := ⟨some 5, _, _, _, _, _⟩) (v := ?_) rfl (by kernel_rfl) (by decide +kernel) (by decide +kernel) (fun _ _ _ h => h) (Or.inl ⟨by rfl, ?_⟩) (by assumption) ?_
      rotate_left 1
      · (intro w' hSw; go_simp; try with_reducible rfl)
      try simp only [Act.put, List.setIfInBounds_toArray, List.set_cons_zero, List.set_cons_succ]
      refine wpAnyH_done (by decide +kernel) ?_ _
      refine NoPanic.normal ?_
      obtain ⟨a9, c9, he9, _, hbs9⟩ := own_bs HO8.out.1 rfl (setB_byt (by have := HFR.out; omega))
      subst he9
      have hcv := conv_BS hbs9
      rw [show strOfNums (setB s) = putV s from rfl] at hcv
      have HX8 := Lib.hid ((HO8.out.2.block _ (lt_of_block HX2.out)).trans HX2.out)
      have HR9 := Lib.hid ((HO8.out.2.block _ (lt_of_block HR2.out)).trans HR2.out)
      have d0 := (set_atR HX8.out HAR.out).1
      clear hbs9
      go_wp2_with (first
        | (with_reducible refine wpList_store_row (o := ⟨none, .store _ (.tmp 2) _, _, _, _, _⟩) rfl 45 _ _ rfl R #[.string s.nm, .string (putV s)] rfl rfl 45 #[.string ⟨#[]⟩, .string ⟨#[]⟩] HR9.out (size_kv _ _) (kv_sz _ _ _ _) (kv_one _ _) ?_))
      refine bodyPost_ret (v := .tuple #[.agg #[.string s.nm, .string (putV s)], .int .i64 0]) (results_cell_two Try.results20 _ _ R 45 #[.string s.nm, .string (putV s)] (0, 0) _ rfl (setRow_heap _ R _ #[.string s.nm, .string (putV s)] _ _ HR9.out) Try.underlying45 rfl (size_kv _ _) _ (by simp)) rfl ?_
      exact ⟨by rw [HE.out], by rw [hXX]; exact ybelow_row (HB2.out.trans (HO8.out.2.mono HXS2.out)) HRW.out _⟩
    | false =>
      have HK := Lib.hid (show kB s = 1 by unfold kB; rw [hsn]; rfl)
      have HOB := Lib.hid (oby_one w2 1)
      have hba := ba15 w2 (.cells #[.int .u8 1] 5)
      have hnw := new15 w2 (.cells #[.int .u8 1] 5)
      have d2 := (set_range (HRX.out _ hba)).2.2.1
      rw [hsn, Nat.zero_add] at d2
      have hfz := frozen_of_row _ w2.heap.size 0 _ _ hnw
      have e0 := cell_of_row _ w2.heap.size 0 _ _ _ hnw
      clear hsn hnw hba
      go_upto_region 7 with fail
      generalize (World.alloc w2 (.cells #[.int .u8 1] 5)) = w3 at *
      try clear d2 hfz e0
      obtain ⟨g, hg⟩ : ∃ z, w2.heap.size = z := ⟨_, rfl⟩
      rw [hg] at HOB ⊢
      clear hg
      have HS3 := Lib.hid (HRX.out _ HOB.out.2)
      have HOD := Lib.hid (HOB.out.below (Below.refl _ w3).drew)
      have HST := Lib.hid (rstr7_any s.fr w3.drew (by have := HFR.out; omega))
      try simp only [Act.put]
      refine wp_region_noPanic ?_
      refine wp_region_held_drew (S := fun W => W.rangeAt X 0 (setRow s)) (by kernel_rfl) (range_below HS3.out (Below.refl _ w3).drew) (fun hHeld => ?_)
      refine wpAnyH_take (i := 0) (oi := ⟨some 17, _, _, _, _, _⟩) (v := ?_) rfl (by kernel_rfl) (by decide +kernel) (by decide +kernel) (fun _ _ _ h => h) (Or.inl ⟨by rfl, ?_⟩) (by assumption) ?_
      rotate_left 1
      · (intro w' hSw; go_simp; try with_reducible rfl)
      try simp only [Act.put, List.setIfInBounds_toArray, List.set_cons_zero, List.set_cons_succ]
      refine wpAnyH_take (i := 1) (oi := ⟨some 18, _, _, _, _, _⟩) (v := ?_) rfl (by kernel_rfl) (by decide +kernel) (by decide +kernel) (fun _ _ _ h => h) (Or.inl ⟨by rfl, ?_⟩) (by assumption) ?_
      rotate_left 1
      · (intro w' hSw; go_simp; try with_reducible rfl)
      try simp only [Act.put, List.setIfInBounds_toArray, List.set_cons_zero, List.set_cons_succ]
      refine wpAnyH_take (i := 2) (oi := ⟨some 19, _, _, _, _, _⟩) (v := ?_) rfl (by kernel_rfl) (by decide +kernel) (by decide +kernel) (fun _ _ _ h => h) (Or.inl ⟨by rfl, ?_⟩) (by assumption) ?_
      rotate_left 1
      · (intro w' hSw; have hq := (rt_of_set hSw).1; clear hSw; go_simp; try with_reducible rfl)
      try simp only [Act.put, List.setIfInBounds_toArray, List.set_cons_zero, List.set_cons_succ]
      refine wpAnyH_take (i := 5) (oi := ⟨some 22, _, _, _, _, _⟩) (v := ?_) rfl (by kernel_rfl) (by decide +kernel) (by decide +kernel) (fun _ _ _ h => h) (Or.inl ⟨by rfl, ?_⟩) (by assumption) ?_
      rotate_left 1
      · (intro w' hSw; go_simp; try with_reducible rfl)
      try simp only [Act.put, List.setIfInBounds_toArray, List.set_cons_zero, List.set_cons_succ]
      refine wpAnyH_take (i := 6) (oi := ⟨some 23, _, _, _, _, _⟩) rfl (by kernel_rfl) (by decide +kernel) (by decide +kernel) (fun _ _ _ h => h) (yieldsIf_load_mid (by rfl) _ _ rfl X 3 rfl (ptrRow s.rt) _ (fun w' h => (rt_of_set h).2) Try.underlying36 rfl (size_ptr _)) (by assumption) ?_
      try simp only [Act.put, List.setIfInBounds_toArray, List.set_cons_zero, List.set_cons_succ]
      rw [show (ptrRow s.rt).toArray = PR from HPR.out]
      refine wpAnyH_ready (rs := [3]) (by decide +kernel) (by simp) ?_
      refine AllReadyH.cons rfl (fun K hK => ?_) AllReadyH.nil
      go_simp
      refine HST.out.mono ?_
      rintro e w4 ⟨a4, c4, rfl, ho4, hb4⟩
      have HO4 := Lib.hid (HOD.out.below hb4)
      obtain ⟨a5, c5, he5, _, hbs5⟩ := own_bs ho4 (by rw [List.length_cons, btxt_length, Nat.add_comm]) (by intro z hz; rcases List.mem_cons.1 hz with rfl | hz; have := HFR.out; omega; exact btxt_byt _ z hz)
      obtain ⟨v6, w6, hr6, ho6⟩ := oby_app HO4.out (he5 ▸ hbs5) (by simp [btxt_length]; have := HFR.out; omega)
      have HR6 := Lib.hid hr6
      have HO6 := Lib.hid ho6
      clear hr6 ho6 he5 hbs5 ho4 hb4 HST HOD
      go_wp2_with fail
      refine hK.out _ _ (HRX.out _ HO4.out.2) (fun hHeld => ?_)
      clear hK K
      try simp only [Act.put, List.setIfInBounds_toArray, List.set_cons_zero, List.set_cons_succ]
      refine wpAnyH_ready (rs := [4]) (by decide +kernel) (by simp) ?_
      refine AllReadyH.cons rfl (fun K hK => ?_) AllReadyH.nil
      refine wp_append_run7 (o := ⟨some 21, _, _, _, _, _⟩) _ _ _ _ rfl _ _ _ _ rfl rfl HR6.out ?_
      refine hK.out _ _ (HRX.out _ HO6.out.2) (fun hHeld => ?_)
      clear hK K
      try simp only [Act.put, List.setIfInBounds_toArray, List.set_cons_zero, List.set_cons_succ]
      have HPB := Lib.hid (rptrb_any s.rt w6)
      rw [show (ptrRow s.rt).toArray = PR from HPR.out] at HPB
      refine wpAnyH_ready (rs := [7]) (by decide +kernel) (by simp) ?_
      refine AllReadyH.cons rfl (fun K hK => ?_) AllReadyH.nil
      go_simp
      refine HPB.out.mono ?_
      rintro e w7 ⟨a7, c7, rfl, _, hbs7, hb7⟩
      have HO7 := Lib.hid (HO6.out.below hb7)
      obtain ⟨v8, w8, hr8, ho8⟩ := oby_app HO7.out hbs7 (by simp [btxt_length, ptrB_length]; have := HFR.out; omega)
      have HR8 := Lib.hid hr8
      have HO8 := Lib.hid (show OBy w2 w8 v8 (setB s) by unfold setB; rw [HK.out]; exact ho8)
      clear hr8 ho8 hbs7 hb7 HPB HR6
      go_wp2_with fail
      refine hK.out _ _ (HRX.out _ HO7.out.2) (fun hHeld => ?_)
      clear hK K
      try simp only [Act.put, List.setIfInBounds_toArray, List.set_cons_zero, List.set_cons_succ]
      refine wpAnyH_ready (rs := [8]) (by decide +kernel) (by simp) ?_
      refine AllReadyH.cons rfl (fun K hK => ?_) AllReadyH.nil
      refine wp_append_run7 (o := ⟨some 25, _, _, _, _, _⟩) _ _ _ _ rfl _ _ _ _ rfl rfl HR8.out ?_
      refine hK.out _ _ (HRX.out _ HO8.out.2) (fun hHeld => ?_)
      clear hK K
      try simp only [Act.put, List.setIfInBounds_toArray, List.set_cons_zero, List.set_cons_succ]
      refine wpAnyH_take (i := 9) (oi := ⟨some 5, _, _, _, _, _⟩) (v := ?_) rfl (by kernel_rfl) (by decide +kernel) (by decide +kernel) (fun _ _ _ h => h) (Or.inl ⟨by rfl, ?_⟩) (by assumption) ?_
      rotate_left 1
      · (intro w' hSw; go_simp; try with_reducible rfl)
      try simp only [Act.put, List.setIfInBounds_toArray, List.set_cons_zero, List.set_cons_succ]
      refine wpAnyH_done (by decide +kernel) ?_ _
      refine NoPanic.normal ?_
      obtain ⟨a9, c9, he9, _, hbs9⟩ := own_bs HO8.out.1 rfl (setB_byt (by have := HFR.out; omega))
      subst he9
      have hcv := conv_BS hbs9
      rw [show strOfNums (setB s) = putV s from rfl] at hcv
      have HX8 := Lib.hid ((HO8.out.2.block _ (lt_of_block HX2.out)).trans HX2.out)
      have HR9 := Lib.hid ((HO8.out.2.block _ (lt_of_block HR2.out)).trans HR2.out)
      have d0 := (set_atR HX8.out HAR.out).1
      clear hbs9
      go_wp2_with (first
        | (with_reducible refine wpList_store_row (o := ⟨none, .store _ (.tmp 2) _, _, _, _, _⟩) rfl 45 _ _ rfl R #[.string s.nm, .string (putV s)] rfl rfl 45 #[.string ⟨#[]⟩, .string ⟨#[]⟩] HR9.out (size_kv _ _) (kv_sz _ _ _ _) (kv_one _ _) ?_))
      refine bodyPost_ret (v := .tuple #[.agg #[.string s.nm, .string (putV s)], .int .i64 0]) (results_cell_two Try.results20 _ _ R 45 #[.string s.nm, .string (putV s)] (0, 0) _ rfl (setRow_heap _ R _ #[.string s.nm, .string (putV s)] _ _ HR9.out) Try.underlying45 rfl (size_kv _ _) _ (by simp)) rfl ?_
      exact ⟨by rw [HE.out], by rw [hXX]; exact ybelow_row (HB2.out.trans (HO8.out.2.mono HXS2.out)) HRW.out _⟩
end Go.Proofs.Ytkafabcklohlmaa
