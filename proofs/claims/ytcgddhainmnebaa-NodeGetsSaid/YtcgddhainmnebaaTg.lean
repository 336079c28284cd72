/-
  The reference's Get of layer 9. (Out of XNx's walk.)
-/
import Derived.Test.YtcgddhainmnebaaTl
import Derived.Test.YtcgddhainmnebaaRz
namespace Go.Proofs.Ytcgddhainmnebaa
set_option maxRecDepth 4000
set_option linter.unusedVariables false
open Go.ChangeShapes Go.WideShapes Go.ChangeAt Go.RowKit

set_option maxRecDepth 100000 in
set_option maxHeartbeats 6400000 in
theorem rget9_any (au : Option Addr) (nu cu : Nat) (l : List Int) (w : World) (h : BS w (.slice au nu cu) l) (hnu : l.length = nu) (hcu : nu ≤ cu) (h63 : l.length ≤ 140737488351232) :
    Calls Try.prog 24 #[.slice au nu cu] w fun e w' => ∃ k v p, e = .returned (.tuple #[.agg #[.bool (getN l).1.lf, k, v, p], .int .i64 (getN l).2]) ∧ NR w' k v p (getN l).1 ∧ Below w.heap.size w w' := by
  have hby := h.byt
  have hb1 := (Below.refl w.heap.size w).alloc (Nat.le_refl _) (.cells #[.bool false, .slice none 0 0, .slice none 0 0, .slice none 0 0] 25)
  have hF1 := heap_alloc_new w (.cells #[.bool false, .slice none 0 0, .slice none 0 0, .slice none 0 0] 25)
  have hs1 : w.heap.size < (w.alloc (.cells #[.bool false, .slice none 0 0, .slice none 0 0, .slice none 0 0] 25)).heap.size := by simp
  have h1 := h.kept hb1
  subst hnu
  have SEZ := Lib.hid (size_node false (.slice none 0 0) (.slice none 0 0) (.slice none 0 0))
  have WOZ := Lib.hid (show (#[.bool false, .slice none 0 0, .slice none 0 0, .slice none 0 0] : Array Value).all (·.oneCell') = true by simp [Value.oneCell'])
  have lI : (l.length : Int) ≤ 140737488351232 := by omega
  generalize hw1 : w.alloc (.cells #[.bool false, .slice none 0 0, .slice none 0 0, .slice none 0 0] 25) = w1 at *
  by_cases hl : l.length = 512
  · have hlb : ((l.length : Int) == 512) = true := by rw [hl]; rfl
    have HRD := Lib.hid (rtold_any au l.length cu l w1 h1 rfl hcu h63)
    have HB1 := Lib.hid hb1
    have HF1 := Lib.hid hF1
    have HS1 := Lib.hid hs1
    have HU1 := Lib.hid h1
    have HNB := Lib.hid (told_nb hby)
    have HFW := Lib.hid (show Few9 (toldN l) from told_few hby)
    have HGN := Lib.hid (show getN l = if checkN (toldN l) = 0 ∧ secB (toldN l) = l then (toldN l, 0) else (zeroNode, 4) by unfold getN; rw [if_neg (by simp [hl])])
    have HHL := Lib.hid hl
    clear h hb1 hF1 hs1 h1 h63 hl hby
    go_enter Try.func24, Try.ntmps24
    go_upto_region 1 with fail
    try rw [hw1]
    clear hw1
    go_wp2_with fail
    refine HRD.out.mono ?_
    rintro e w3 ⟨k, v, p, rfl, hnr, hb3⟩
    obtain ⟨ak, ck, hk⟩ := hnr.ks.shape
    obtain ⟨av, cv, hv⟩ := hnr.vs.shape
    obtain ⟨ap, cp, hp⟩ := hnr.ps.shape
    subst hk hv hp
    have hb4 := (Below.refl w3.heap.size w3).alloc (Nat.le_refl _) (.cells #[.bool (toldN l).lf, .slice ak (toldN l).ks.length ck, .slice av (toldN l).vs.length cv, .slice ap (toldN l).ps.length cp] 25)
    have hN4 := hnr.below hb4
    have hA4 := heap_alloc_new w3 (.cells #[.bool (toldN l).lf, .slice ak (toldN l).ks.length ck, .slice av (toldN l).vs.length cv, .slice ap (toldN l).ps.length cp] 25)
    have HB4 := Lib.hid (hb3.trans (hb4.mono hb3.size))
    have HF4 := Lib.hid ((hb4.block _ (Nat.lt_of_lt_of_le HS1.out hb3.size)).trans ((hb3.block _ HS1.out).trans HF1.out))
    have HU4 := Lib.hid ((HU1.out.kept hb3).kept hb4)
    have HBW := Lib.hid (show ∀ W, Below w1.heap.size w1 W → Below w.heap.size w W from fun W b => HB1.out.trans (b.mono (Nat.le_of_lt HS1.out)))
    clear hnr hb3 hb4 HRD
    go_upto_region 4 with fail
    generalize World.alloc w3 _ = w4 at *
    have HN4 := Lib.hid hN4
    have HA4 := Lib.hid hA4
    have SE := Lib.hid (size_node (toldN l).lf (.slice ak (toldN l).ks.length ck) (.slice av (toldN l).vs.length cv) (.slice ap (toldN l).ps.length cp))
    have HC3 := Lib.hid (check_three (toldN l))
    obtain ⟨G, hG⟩ : ∃ G, w3.heap.size = G := ⟨_, rfl⟩
    try rw [hG]
    rw [hG] at HA4
    have HT4 := Lib.hid (show G < w4.heap.size from (Array.getElem?_eq_some_iff.1 HA4.out).1)
    clear hN4 hA4 hG
    by_cases hck : checkN (toldN l) = 0
    · have HPT := Lib.hid (rput9_ok _ _ _ (toldN l) w4 HN4.out HNB.out HFW.out hck)
      go_wp2_with (first
        | (with_reducible refine wpList_load_row (o := ⟨some 14, _, _, _, _, _⟩) rfl 25 _ rfl G rfl 25 _ (0, 0) _ HA4.out Try.underlying25 rfl SE.out ?_))
      refine HPT.out.mono ?_
      rintro e w5 ⟨a5, c5, rfl, _, hbs5, hb5⟩
      have HB5 := Lib.hid (HB4.out.trans (hb5.mono HB4.out.size))
      have HF5 := Lib.hid ((hb5.block _ (Nat.lt_of_lt_of_le HS1.out HB4.out.size)).trans HF4.out)
      have HA5 := Lib.hid ((hb5.block _ HT4.out).trans HA4.out)
      have HN5 := Lib.hid (HN4.out.below hb5)
      have hv1 := conv_BS hbs5
      have hv2 := conv_BS (HU4.out.kept hb5)
      have heq := str_nums_beq (secB (toldN l)) l hbs5.byt (HU4.out.byt)
      clear hbs5 hb5 HPT HA4 HN4 HF4 HB4 HU4
      by_cases hsl : secB (toldN l) = l
      · have HG := Lib.hid (show getN l = (toldN l, 0) by rw [HGN.out, if_pos ⟨hck, hsl⟩])
        rw [decide_eq_true hsl] at heq
        clear hck hsl
        have HNR := Lib.hid (nr_row HN5.out HF5.out (row := #[.bool (toldN l).lf, .slice ak (toldN l).ks.length ck, .slice av (toldN l).vs.length cv, .slice ap (toldN l).ps.length cp]) (znr_no HF5.out).1 (znr_no HF5.out).2)
        have WO := Lib.hid (show (#[.bool (toldN l).lf, .slice ak (toldN l).ks.length ck, .slice av (toldN l).vs.length cv, .slice ap (toldN l).ps.length cp] : Array Value).all (·.oneCell') = true by simp [Value.oneCell'])
        go_wp2_with (first
          | (with_reducible refine wpList_load_row (o := ⟨some 28, _, _, _, _, _⟩) rfl 25 _ rfl G rfl 25 _ (0, 0) _ HA5.out Try.underlying25 rfl SE.out ?_)
          | (with_reducible refine wpList_store_row (o := ⟨none, .store _ (.tmp 2) _, _, _, _, _⟩) rfl 25 _ _ rfl w.heap.size _ rfl rfl 25 _ HF5.out SE.out rfl WO.out ?_))
        refine bodyPost_ret (v := .tuple #[.agg #[.bool (toldN l).lf, .slice ak (toldN l).ks.length ck, .slice av (toldN l).vs.length cv, .slice ap (toldN l).ps.length cp], .int .i64 0]) (results_cell_two Try.results24 _ _ w.heap.size 25 _ (0, 0) _ rfl (setRow_heap _ w.heap.size _ _ _ _ HF5.out) Try.underlying25 rfl SE.out _ (by simp)) rfl ⟨_, _, _, (by rw [HG.out]; try rfl), by rw [HG.out]; exact HNR.out, (HBW.out _ HB5.out).trans (setRow_below _ _ (HBW.out _ HB5.out).size (Nat.le_refl _))⟩
      · have HG := Lib.hid (show getN l = (zeroNode, 4) by rw [HGN.out, if_neg (fun h => hsl h.2)])
        rw [decide_eq_false hsl] at heq
        clear hck hsl
        go_wp2_with (first
          | (with_reducible refine wpList_store_row (o := ⟨none, .store _ (.tmp 2) _, _, _, _, _⟩) rfl 25 _ _ rfl w.heap.size _ rfl rfl 25 _ HF5.out SEZ.out rfl WOZ.out ?_))
        refine bodyPost_ret (v := .tuple #[.agg #[.bool false, .slice none 0 0, .slice none 0 0, .slice none 0 0], .int .i64 4]) (results_cell_two Try.results24 _ _ w.heap.size 25 #[.bool false, .slice none 0 0, .slice none 0 0, .slice none 0 0] (0, 0) _ rfl (setRow_heap _ w.heap.size _ _ _ _ HF5.out) Try.underlying25 rfl SEZ.out _ (by simp)) rfl ⟨_, _, _, (by rw [HG.out]; try rfl), by rw [HG.out]; exact nr_zero _, (HBW.out _ HB5.out).trans (setRow_below _ _ (HBW.out _ HB5.out).size (Nat.le_refl _))⟩
    · have HPT := Lib.hid (rput9_bad _ _ _ (toldN l) w4 HN4.out HNB.out HFW.out hck)
      have HG := Lib.hid (show getN l = (zeroNode, 4) by rw [HGN.out, if_neg (fun h => hck h.1)])
      obtain ⟨ce, hce⟩ : ∃ ce, checkN (toldN l) = ce := ⟨_, rfl⟩
      rw [hce] at HPT HC3 hck
      clear hce
      go_wp2_with (first
        | (with_reducible refine wpList_load_row (o := ⟨some 14, _, _, _, _, _⟩) rfl 25 _ rfl G rfl 25 _ (0, 0) _ HA4.out Try.underlying25 rfl SE.out ?_))
      refine HPT.out.mono ?_
      rintro e w5 ⟨rfl, hb5⟩
      have HB5 := Lib.hid (HB4.out.trans (hb5.mono HB4.out.size))
      have HF5 := Lib.hid ((hb5.block _ (Nat.lt_of_lt_of_le HS1.out HB4.out.size)).trans HF4.out)
      clear hb5 HPT HA4 HN4 HF4 HB4 HU4
      rcases HC3.out with rfl | rfl | rfl
      · exact absurd rfl hck
      · clear hck
        go_wp2_with (first
          | (with_reducible refine wpList_store_row (o := ⟨none, .store _ (.tmp 2) _, _, _, _, _⟩) rfl 25 _ _ rfl w.heap.size _ rfl rfl 25 _ HF5.out SEZ.out rfl WOZ.out ?_))
        refine bodyPost_ret (v := .tuple #[.agg #[.bool false, .slice none 0 0, .slice none 0 0, .slice none 0 0], .int .i64 4]) (results_cell_two Try.results24 _ _ w.heap.size 25 #[.bool false, .slice none 0 0, .slice none 0 0, .slice none 0 0] (0, 0) _ rfl (setRow_heap _ w.heap.size _ _ _ _ HF5.out) Try.underlying25 rfl SEZ.out _ (by simp)) rfl ⟨_, _, _, (by rw [HG.out]; try rfl), by rw [HG.out]; exact nr_zero _, (HBW.out _ HB5.out).trans (setRow_below _ _ (HBW.out _ HB5.out).size (Nat.le_refl _))⟩
      · clear hck
        go_wp2_with (first
          | (with_reducible refine wpList_store_row (o := ⟨none, .store _ (.tmp 2) _, _, _, _, _⟩) rfl 25 _ _ rfl w.heap.size _ rfl rfl 25 _ HF5.out SEZ.out rfl WOZ.out ?_))
        refine bodyPost_ret (v := .tuple #[.agg #[.bool false, .slice none 0 0, .slice none 0 0, .slice none 0 0], .int .i64 4]) (results_cell_two Try.results24 _ _ w.heap.size 25 #[.bool false, .slice none 0 0, .slice none 0 0, .slice none 0 0] (0, 0) _ rfl (setRow_heap _ w.heap.size _ _ _ _ HF5.out) Try.underlying25 rfl SEZ.out _ (by simp)) rfl ⟨_, _, _, (by rw [HG.out]; try rfl), by rw [HG.out]; exact nr_zero _, (HBW.out _ HB5.out).trans (setRow_below _ _ (HBW.out _ HB5.out).size (Nat.le_refl _))⟩
  · have hlb : ((l.length : Int) == 512) = false := by rw [show ((l.length : Int) == 512) = ((l.length : Int) == ((512 : Nat) : Int)) from rfl, cast_beq, decide_eq_false hl]
    have HG := Lib.hid (show getN l = (zeroNode, 2) by unfold getN; rw [if_pos hl])
    have HB1 := Lib.hid hb1
    have HF1 := Lib.hid hF1
    have HBW := Lib.hid (show ∀ W, Below w1.heap.size w1 W → Below w.heap.size w W from fun W b => hb1.trans (b.mono (Nat.le_of_lt hs1)))
    have HBR := Lib.hid (Below.refl w1.heap.size w1)
    clear h hb1 hF1 h1 h63 hl hby hs1
    go_enter Try.func24, Try.ntmps24
    go_upto_region 1 with fail
    try rw [hw1]
    clear hw1
    go_wp2_with (first
      | (with_reducible refine wpList_store_row (o := ⟨none, .store _ (.tmp 2) _, _, _, _, _⟩) rfl 25 _ _ rfl w.heap.size _ rfl rfl 25 _ HF1.out SEZ.out rfl WOZ.out ?_))
    refine bodyPost_ret (v := .tuple #[.agg #[.bool false, .slice none 0 0, .slice none 0 0, .slice none 0 0], .int .i64 2]) (results_cell_two Try.results24 _ _ w.heap.size 25 #[.bool false, .slice none 0 0, .slice none 0 0, .slice none 0 0] (0, 0) _ rfl (setRow_heap _ w.heap.size _ _ _ _ HF1.out) Try.underlying25 rfl SEZ.out _ (by simp)) rfl ⟨_, _, _, (by rw [HG.out]; try rfl), by rw [HG.out]; exact nr_zero _, (HBW.out _ HBR.out).trans (setRow_below _ _ (HBW.out _ HBR.out).size (Nat.le_refl _))⟩
end Go.Proofs.Ytcgddhainmnebaa
