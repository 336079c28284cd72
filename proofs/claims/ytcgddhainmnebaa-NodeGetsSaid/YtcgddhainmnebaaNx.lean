/-
  The program's Get of layer 9.
-/
import Derived.Test.YtcgddhainmnebaaNr
import Derived.Lib.Bytes
namespace Go.Proofs.Ytcgddhainmnebaa
set_option maxRecDepth 4000
set_option linter.unusedVariables false
open Go.ChangeShapes Go.WideShapes Go.ChangeAt Go.RowKit

theorem bytesOf_inj : ∀ (l m : List Int), Byt l → Byt m → Lib.bytesOf l = Lib.bytesOf m → l = m
  | [], [], _, _, _ => rfl
  | [], _ :: _, _, _, h => by simp [Lib.bytesOf] at h
  | _ :: _, [], _, _, h => by simp [Lib.bytesOf] at h
  | a :: l, b :: m, hl, hm, h => by
    have ha := hl a (by simp)
    have hb := hm b (by simp)
    have h1 : a.toNat.toUInt8 :: Lib.bytesOf l = b.toNat.toUInt8 :: Lib.bytesOf m := h
    injection h1 with h1 h2
    have h3 := congrArg UInt8.toNat h1
    have e : ∀ z : Int, 0 ≤ z ∧ z ≤ 255 → z.toNat.toUInt8.toNat = z.toNat := fun z hz => by simp; omega
    rw [e a ha, e b hb] at h3
    rw [bytesOf_inj l m (fun z hz => hl z (by simp [hz])) (fun z hz => hm z (by simp [hz])) h2]
    congr 1
    omega
theorem str_nums_beq (l m : List Int) (hl : Byt l) (hm : Byt m) : ((strOfNums l).toList == (strOfNums m).toList) = decide (l = m) := by
  rw [Lib.strOfNums_toList, Lib.strOfNums_toList]
  by_cases e : l = m
  · rw [e, decide_eq_true rfl]; simp
  · rw [decide_eq_false e, beq_eq_false_iff_ne]
    exact fun h => e (bytesOf_inj l m hl hm h)
set_option maxRecDepth 100000 in
set_option maxHeartbeats 1600000 in
theorem bequal_any (u v : Value) (l m : List Int) (w : World) (hu : BS w u l) (hv : BS w v m) :
    Calls Try.prog 54 #[u, v] w fun e w' => e = .returned (.bool (decide (l = m))) ∧ w' = w := by
  have h1 := conv_BS hu
  have h2 := conv_BS hv
  have HE := Lib.hid (str_nums_beq l m hu.byt hv.byt)
  obtain ⟨_, _, rfl, _⟩ := hu
  obtain ⟨_, _, rfl, _⟩ := hv
  go_enter Try.func54, Try.ntmps54
  go_wp2_with fail
  go_ret
  rw [← HE.out]
  exact ⟨by simp, rfl⟩
theorem check_three (n : NodeV) : checkN n = 0 ∨ checkN n = 4 ∨ checkN n = 6 := by
  unfold checkN
  split
  · split
    · exact .inl rfl
    · exact .inr (.inr rfl)
  · exact .inr (.inl rfl)
/-- A sector's node, and the error. -/
def getN (l : List Int) : NodeV × Int := if l.length ≠ 512 then (zeroNode, 2) else if checkN (toldN l) = 0 ∧ secB (toldN l) = l then (toldN l, 0) else (zeroNode, 4)
theorem setRow_below {w : World} {F : Nat} (N : Nat) (row : Array Value) (hN : N ≤ w.heap.size) (hF : N ≤ F) : Below N w (w.setRow F row) := ybelow_row ((Below.refl w.heap.size w).mono hN) hF _
theorem nr_row {w : World} {k v p : Value} {n : NodeV} (h : NR w k v p n) {F : Nat} {cs row : Array Value} (hF : w.heap[F]? = some (.cells cs 25 (0, 0))) (hk : ∀ i s, w.cell? ⟨F, i, none⟩ ≠ some (.string s)) (hp : ∀ i a, w.cell? ⟨F, i, none⟩ ≠ some (.int .u32 a)) : NR (w.setRow F row) k v p n := by
  have keep : ∀ a x, w.cell? a = some x → a.block ≠ F → (w.setRow F row).cell? a = some x := fun a x hx hne => by
    have e : (w.setRow F row).heap[a.block]? = w.heap[a.block]? := setRow_other w F a.block row hne
    rw [← hx]
    simp [World.cell?, e]
  have ss : ∀ {u l}, SS w u l → SS (w.setRow F row) u l := fun ⟨a, c, e, hc, h⟩ => ⟨a, c, e, hc, fun i s hs => by
    obtain ⟨b, off, h1, h2⟩ := h i s hs
    exact ⟨b, off, h1, keep _ _ h2 (fun e2 => hk (off + i) s (by rw [← h2]; exact congrArg w.cell? (by simpa using e2.symm)))⟩⟩
  refine ⟨ss h.ks, ss h.vs, ?_⟩
  obtain ⟨a, c, e, h⟩ := h.ps
  refine ⟨a, c, e, fun i q hq => ?_⟩
  obtain ⟨b, off, h1, h2⟩ := h i q hq
  refine ⟨b, off, h1, fun j x hj => ?_⟩
  have h0 := h2 0 (.int .u32 q.ad) rfl
  have hne : b ≠ F := by
    intro e2
    subst e2
    exact hp _ _ h0
  exact keep _ _ (h2 j x hj) hne
theorem znr_no {w : World} {F : Nat} (hF : w.heap[F]? = some (.cells #[.bool false, .slice none 0 0, .slice none 0 0, .slice none 0 0] 25 (0, 0))) : (∀ i s, w.cell? ⟨F, i, none⟩ ≠ some (.string s)) ∧ (∀ i a, w.cell? ⟨F, i, none⟩ ≠ some (.int .u32 a)) := by
  refine ⟨fun i s h => ?_, fun i a h => ?_⟩ <;>
  · rw [cell_of_row _ _ _ _ _ _ hF] at h
    match i with
    | 0 => simp at h
    | 1 => simp at h
    | 2 => simp at h
    | 3 => simp at h
    | i + 4 => simp at h
set_option maxRecDepth 100000 in
set_option maxHeartbeats 6400000 in
theorem nget_any (u : Value) (l : List Int) (w : World) (h : BS w u l) (h63 : l.length ≤ 140737488351232) :
    Calls Try.prog 23 #[u] w fun e w' => ∃ k v p, e = .returned (.tuple #[.agg #[.bool (getN l).1.lf, k, v, p], .int .i64 (getN l).2]) ∧ NR w' k v p (getN l).1 ∧ Below w.heap.size w w' := by
  have hby := h.byt
  have hb1 := (Below.refl w.heap.size w).alloc (Nat.le_refl _) (.cells #[.bool false, .slice none 0 0, .slice none 0 0, .slice none 0 0] 25)
  have hF1 := heap_alloc_new w (.cells #[.bool false, .slice none 0 0, .slice none 0 0, .slice none 0 0] 25)
  have hs1 : w.heap.size < (w.alloc (.cells #[.bool false, .slice none 0 0, .slice none 0 0, .slice none 0 0] 25)).heap.size := by simp
  have h1 := h.kept hb1
  obtain ⟨au, cu, rfl, _⟩ := id h
  have SEZ := Lib.hid (size_node false (.slice none 0 0) (.slice none 0 0) (.slice none 0 0))
  have WOZ := Lib.hid (show (#[.bool false, .slice none 0 0, .slice none 0 0, .slice none 0 0] : Array Value).all (·.oneCell') = true by simp [Value.oneCell'])
  have lI : (l.length : Int) ≤ 140737488351232 := by omega
  generalize hw1 : w.alloc (.cells #[.bool false, .slice none 0 0, .slice none 0 0, .slice none 0 0] 25) = w1 at *
  by_cases hl : l.length = 512
  · have hlb : ((l.length : Int) == 512) = true := by rw [hl]; rfl
    have HRD := Lib.hid (pread7_any _ l w1 h1 h63)
    have HB1 := Lib.hid hb1
    have HF1 := Lib.hid hF1
    have HS1 := Lib.hid hs1
    have HU1 := Lib.hid h1
    have HNB := Lib.hid (told_nb hby)
    have HGN := Lib.hid (show getN l = if checkN (toldN l) = 0 ∧ secB (toldN l) = l then (toldN l, 0) else (zeroNode, 4) by unfold getN; rw [if_neg (by simp [hl])])
    have HHL := Lib.hid hl
    clear h hb1 hF1 hs1 h1 h63 hl hby
    go_enter Try.func23, Try.ntmps23
    go_upto_region 1 with fail
    try rw [hw1]
    clear hw1
    go_wp2_with fail
    refine HRD.out.mono ?_
    rintro e w2 ⟨R, ab, cb, rfl, hrr, hR, hb2, _⟩
    have HRN := Lib.hid (nread_any R l w2 (RT.now hrr))
    have HF2 := Lib.hid ((hb2.block _ HS1.out).trans HF1.out)
    have HB2 := Lib.hid hb2
    have HRW := Lib.hid hR
    clear hrr hR hb2 HRD
    go_wp2_with fail
    refine HRN.out.mono ?_
    rintro e w3 ⟨k, v, p, rfl, hnr, hch⟩
    obtain ⟨ak, ck, hk⟩ := hnr.ks.shape
    obtain ⟨av, cv, hv⟩ := hnr.vs.shape
    obtain ⟨ap, cp, hp⟩ := hnr.ps.shape
    subst hk hv hp
    have hb3 : Below w1.heap.size w1 w3 := HB2.out.trans (hch.below HRW.out HB2.out.size)
    have hb4 := (Below.refl w3.heap.size w3).alloc (Nat.le_refl _) (.cells #[.bool (toldN l).lf, .slice ak (toldN l).ks.length ck, .slice av (toldN l).vs.length cv, .slice ap (toldN l).ps.length cp] 25)
    have hN4 := hnr.below hb4
    have hA4 := heap_alloc_new w3 (.cells #[.bool (toldN l).lf, .slice ak (toldN l).ks.length ck, .slice av (toldN l).vs.length cv, .slice ap (toldN l).ps.length cp] 25)
    have HB4 := Lib.hid (hb3.trans (hb4.mono hb3.size))
    have HF4 := Lib.hid ((hb4.block _ (Nat.lt_of_lt_of_le HS1.out hb3.size)).trans ((hb3.block _ HS1.out).trans HF1.out))
    have HU4 := Lib.hid ((HU1.out.kept hb3).kept hb4)
    have HBW := Lib.hid (show ∀ W, Below w1.heap.size w1 W → Below w.heap.size w W from fun W b => HB1.out.trans (b.mono (Nat.le_of_lt HS1.out)))
    clear hnr hb3 hb4 hch HRN HB2 HF2 HRW
    go_upto_region 4 with fail
    generalize World.alloc w3 _ = w4 at *
    have HN4 := Lib.hid hN4
    have HA4 := Lib.hid hA4
    have SE := Lib.hid (size_node (toldN l).lf (.slice ak (toldN l).ks.length ck) (.slice av (toldN l).vs.length cv) (.slice ap (toldN l).ps.length cp))
    have HC3 := Lib.hid (check_three (toldN l))
    obtain ⟨G, hG⟩ : ∃ G, w3.heap.size = G := ⟨_, rfl⟩
    try rw [hG]
    rw [hG] at HA4
    have HT4 := Lib.hid (show G < w4.heap.size from (Array.getElem?_eq_some_iff.1 HA4.out).1)
    clear hN4 hA4 hG
    by_cases hck : checkN (toldN l) = 0
    · have HPT := Lib.hid (nput_any _ _ _ (toldN l) w4 HN4.out HNB.out hck)
      go_wp2_with (first
        | (with_reducible refine wpList_load_row (o := ⟨some 15, _, _, _, _, _⟩) rfl 25 _ rfl G rfl 25 _ (0, 0) _ HA4.out Try.underlying25 rfl SE.out ?_))
      refine HPT.out.mono ?_
      rintro e w5 ⟨a5, c5, rfl, _, hbs5, hb5⟩
      have HB5 := Lib.hid (HB4.out.trans (hb5.mono HB4.out.size))
      have HF5 := Lib.hid ((hb5.block _ (Nat.lt_of_lt_of_le HS1.out HB4.out.size)).trans HF4.out)
      have HA5 := Lib.hid ((hb5.block _ HT4.out).trans HA4.out)
      have HN5 := Lib.hid (HN4.out.below hb5)
      have HEQ := Lib.hid (bequal_any _ _ _ _ w5 hbs5 (HU4.out.kept hb5))
      clear hbs5 hb5 HPT HA4 HN4 HF4 HB4 HU4
      by_cases hsl : secB (toldN l) = l
      · have HG := Lib.hid (show getN l = (toldN l, 0) by rw [HGN.out, if_pos ⟨hck, hsl⟩])
        rw [decide_eq_true hsl] at HEQ
        clear hck hsl
        go_wp2_with fail
        refine HEQ.out.mono ?_
        rintro e w6 ⟨rfl, rfl⟩
        have HNR := Lib.hid (nr_row HN5.out HF5.out (row := #[.bool (toldN l).lf, .slice ak (toldN l).ks.length ck, .slice av (toldN l).vs.length cv, .slice ap (toldN l).ps.length cp]) (znr_no HF5.out).1 (znr_no HF5.out).2)
        have WO := Lib.hid (show (#[.bool (toldN l).lf, .slice ak (toldN l).ks.length ck, .slice av (toldN l).vs.length cv, .slice ap (toldN l).ps.length cp] : Array Value).all (·.oneCell') = true by simp [Value.oneCell'])
        go_wp2_with (first
          | (with_reducible refine wpList_load_row (o := ⟨some 28, _, _, _, _, _⟩) rfl 25 _ rfl G rfl 25 _ (0, 0) _ HA5.out Try.underlying25 rfl SE.out ?_)
          | (with_reducible refine wpList_store_row (o := ⟨none, .store _ (.tmp 2) _, _, _, _, _⟩) rfl 25 _ _ rfl w.heap.size _ rfl rfl 25 _ HF5.out SE.out rfl WO.out ?_))
        refine bodyPost_ret (v := .tuple #[.agg #[.bool (toldN l).lf, .slice ak (toldN l).ks.length ck, .slice av (toldN l).vs.length cv, .slice ap (toldN l).ps.length cp], .int .i64 0]) (results_cell_two Try.results23 _ _ w.heap.size 25 _ (0, 0) _ rfl (setRow_heap _ w.heap.size _ _ _ _ HF5.out) Try.underlying25 rfl SE.out _ (by simp)) rfl ⟨_, _, _, (by rw [HG.out]; try rfl), by rw [HG.out]; exact HNR.out, (HBW.out _ HB5.out).trans (setRow_below _ _ (HBW.out _ HB5.out).size (Nat.le_refl _))⟩
      · have HG := Lib.hid (show getN l = (zeroNode, 4) by rw [HGN.out, if_neg (fun h => hsl h.2)])
        rw [decide_eq_false hsl] at HEQ
        clear hck hsl
        go_wp2_with fail
        refine HEQ.out.mono ?_
        rintro e w6 ⟨rfl, rfl⟩
        go_wp2_with (first
          | (with_reducible refine wpList_store_row (o := ⟨none, .store _ (.tmp 2) _, _, _, _, _⟩) rfl 25 _ _ rfl w.heap.size _ rfl rfl 25 _ HF5.out SEZ.out rfl WOZ.out ?_))
        refine bodyPost_ret (v := .tuple #[.agg #[.bool false, .slice none 0 0, .slice none 0 0, .slice none 0 0], .int .i64 4]) (results_cell_two Try.results23 _ _ w.heap.size 25 #[.bool false, .slice none 0 0, .slice none 0 0, .slice none 0 0] (0, 0) _ rfl (setRow_heap _ w.heap.size _ _ _ _ HF5.out) Try.underlying25 rfl SEZ.out _ (by simp)) rfl ⟨_, _, _, (by rw [HG.out]; try rfl), by rw [HG.out]; exact nr_zero _, (HBW.out _ HB5.out).trans (setRow_below _ _ (HBW.out _ HB5.out).size (Nat.le_refl _))⟩
    · have HPT := Lib.hid (nput_bad _ _ _ (toldN l) w4 HN4.out HNB.out hck)
      have HG := Lib.hid (show getN l = (zeroNode, 4) by rw [HGN.out, if_neg (fun h => hck h.1)])
      obtain ⟨ce, hce⟩ : ∃ ce, checkN (toldN l) = ce := ⟨_, rfl⟩
      rw [hce] at HPT HC3 hck
      clear hce
      go_wp2_with (first
        | (with_reducible refine wpList_load_row (o := ⟨some 15, _, _, _, _, _⟩) rfl 25 _ rfl G rfl 25 _ (0, 0) _ HA4.out Try.underlying25 rfl SE.out ?_))
      refine HPT.out.mono ?_
      rintro e w5 ⟨rfl, hb5⟩
      have HB5 := Lib.hid (HB4.out.trans (hb5.mono HB4.out.size))
      have HF5 := Lib.hid ((hb5.block _ (Nat.lt_of_lt_of_le HS1.out HB4.out.size)).trans HF4.out)
      clear hb5 HPT HA4 HN4 HF4 HB4 HU4
      rcases HC3.out with rfl | rfl | rfl
      · exact absurd rfl hck
      · clear hck
        go_wp2_with (first
          | (with_reducible refine wpList_store_row (o := ⟨none, .store _ (.tmp 2) _, _, _, _, _⟩) rfl 25 _ _ rfl w.heap.size _ rfl rfl 25 _ HF5.out SEZ.out rfl WOZ.out ?_))
        refine bodyPost_ret (v := .tuple #[.agg #[.bool false, .slice none 0 0, .slice none 0 0, .slice none 0 0], .int .i64 4]) (results_cell_two Try.results23 _ _ w.heap.size 25 #[.bool false, .slice none 0 0, .slice none 0 0, .slice none 0 0] (0, 0) _ rfl (setRow_heap _ w.heap.size _ _ _ _ HF5.out) Try.underlying25 rfl SEZ.out _ (by simp)) rfl ⟨_, _, _, (by rw [HG.out]; try rfl), by rw [HG.out]; exact nr_zero _, (HBW.out _ HB5.out).trans (setRow_below _ _ (HBW.out _ HB5.out).size (Nat.le_refl _))⟩
      · clear hck
        go_wp2_with (first
          | (with_reducible refine wpList_store_row (o := ⟨none, .store _ (.tmp 2) _, _, _, _, _⟩) rfl 25 _ _ rfl w.heap.size _ rfl rfl 25 _ HF5.out SEZ.out rfl WOZ.out ?_))
        refine bodyPost_ret (v := .tuple #[.agg #[.bool false, .slice none 0 0, .slice none 0 0, .slice none 0 0], .int .i64 4]) (results_cell_two Try.results23 _ _ w.heap.size 25 #[.bool false, .slice none 0 0, .slice none 0 0, .slice none 0 0] (0, 0) _ rfl (setRow_heap _ w.heap.size _ _ _ _ HF5.out) Try.underlying25 rfl SEZ.out _ (by simp)) rfl ⟨_, _, _, (by rw [HG.out]; try rfl), by rw [HG.out]; exact nr_zero _, (HBW.out _ HB5.out).trans (setRow_below _ _ (HBW.out _ HB5.out).size (Nat.le_refl _))⟩
  · have hlb : ((l.length : Int) == 512) = false := by rw [show ((l.length : Int) == 512) = ((l.length : Int) == ((512 : Nat) : Int)) from rfl, cast_beq, decide_eq_false hl]
    have HG := Lib.hid (show getN l = (zeroNode, 2) by unfold getN; rw [if_pos hl])
    have HB1 := Lib.hid hb1
    have HF1 := Lib.hid hF1
    have HBW := Lib.hid (show ∀ W, Below w1.heap.size w1 W → Below w.heap.size w W from fun W b => hb1.trans (b.mono (Nat.le_of_lt hs1)))
    have HBR := Lib.hid (Below.refl w1.heap.size w1)
    clear h hb1 hF1 h1 h63 hl hby hs1
    go_enter Try.func23, Try.ntmps23
    go_upto_region 1 with fail
    try rw [hw1]
    clear hw1
    go_wp2_with (first
      | (with_reducible refine wpList_store_row (o := ⟨none, .store _ (.tmp 2) _, _, _, _, _⟩) rfl 25 _ _ rfl w.heap.size _ rfl rfl 25 _ HF1.out SEZ.out rfl WOZ.out ?_))
    refine bodyPost_ret (v := .tuple #[.agg #[.bool false, .slice none 0 0, .slice none 0 0, .slice none 0 0], .int .i64 2]) (results_cell_two Try.results23 _ _ w.heap.size 25 #[.bool false, .slice none 0 0, .slice none 0 0, .slice none 0 0] (0, 0) _ rfl (setRow_heap _ w.heap.size _ _ _ _ HF1.out) Try.underlying25 rfl SEZ.out _ (by simp)) rfl ⟨_, _, _, (by rw [HG.out]; try rfl), by rw [HG.out]; exact nr_zero _, (HBW.out _ HBR.out).trans (setRow_below _ _ (HBW.out _ HBR.out).size (Nat.le_refl _))⟩
end Go.Proofs.Ytcgddhainmnebaa
