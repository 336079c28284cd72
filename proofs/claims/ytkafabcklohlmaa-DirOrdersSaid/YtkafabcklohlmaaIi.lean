/-
  Datasets: the program's Rename; do. (Written by tools/XIi.make.py.)
-/
import Derived.Test.YtkafabcklohlmaaIh
namespace Go.Proofs.Ytkafabcklohlmaa
set_option maxRecDepth 4000
set_option linter.unusedVariables false
open Go.ChangeShapes Go.WideShapes Go.ChangeAt Go.RowKit

/-- A row's From, set. -/
theorem setRow_fr (q : SetV) (x : ByteArray) : setRow ⟨q.nm, x, q.sn, q.rt⟩ = (setRow q).set 1 (.string x) := rfl
theorem rows_set : ∀ (S : List SetV) (i : Nat) (q : SetV) (x : ByteArray), S[i]? = some q → rowsS (S.set i ⟨q.nm, x, q.sn, q.rt⟩) = (rowsS S).set (i * 37 + 1) (.string x)
  | [], i, q, x, h => by simp at h
  | y :: S, 0, q, x, h => by
    obtain rfl : y = q := by simpa using h
    show setRow ⟨y.nm, x, y.sn, y.rt⟩ ++ rowsS S = (setRow y ++ rowsS S).set (0 * 37 + 1) _
    rw [setRow_fr, List.set_append_left _ _ (by rw [setRow_length]; omega)]
  | y :: S, i + 1, q, x, h => by
    have := rows_set S i q x (by simpa using h)
    show setRow y ++ rowsS (S.set i _) = (setRow y ++ rowsS S).set ((i + 1) * 37 + 1) _
    rw [List.set_append_right _ _ (by rw [setRow_length]; omega), setRow_length, this, show (i + 1) * 37 + 1 - 37 = i * 37 + 1 by omega]
theorem ows_setfr {w : World} {B g n cap i : Nat} {S : List SetV} {q : SetV} (h : OWS w B (.slice (some ⟨g, 0, none⟩) n cap) S) (hq : S[i]? = some q) (x : ByteArray) :
    OWS (w.setCell ⟨g, i * 37 + 1, none⟩ (.string x)) B (.slice (some ⟨g, 0, none⟩) n cap) (S.set i ⟨q.nm, x, q.sn, q.rt⟩) := by
  obtain ⟨hi, _⟩ := List.getElem?_eq_some_iff.1 hq
  refine ⟨by rw [List.length_set, rowsS_len, List.length_set], ?_⟩
  rcases h.2 with ⟨e, h0⟩ | ⟨g', cap', cur, e, hb, hc, h1, h2, h3, h4⟩
  · cases e
  · injection e with e1 e2 e3
    injection e1 with e1
    injection e1 with e1
    subst e1 e3
    refine .inr ⟨g, cap, _, by rw [List.length_set, e2], hb, heap_setCell_same w g _ cur _ _ hc, by rw [List.length_set]; exact h1, h2, by rw [Array.size_setIfInBounds]; exact h3, ?_⟩
    rw [List.length_set, Array.toList_setIfInBounds, List.take_set, h4, rows_set S i q x hq]
theorem OWS.cell {w : World} {B g n cap i : Nat} {S : List SetV} {q : SetV} (h : OWS w B (.slice (some ⟨g, 0, none⟩) n cap) S) (hq : S[i]? = some q) : w.rangeAt g (i * 37) (setRow q) ∧ B ≤ g ∧ g < w.heap.size := by
  have hl := World.ownsRow.lt h g rfl
  obtain ⟨a, c, e, _, hat⟩ := h.ls
  injection e with e1 _ _
  obtain ⟨b, off, e2, hr⟩ := hat i q hq
  rw [← e1] at e2
  injection e2 with e2
  injection e2 with e2 e3
  subst e2 e3
  rw [Nat.zero_add] at hr
  exact ⟨hr, hl.1, hl.2⟩
theorem OWS.some_ {w : World} {B : Nat} {v : Value} {S : List SetV} (h : OWS w B v S) : ∃ a c, v = .slice a S.length c ∧ S.length ≤ c ∧ (0 < S.length → ∃ g, a = some ⟨g, 0, none⟩) := by
  rcases h.2 with ⟨e, h0⟩ | ⟨g, cap, cur, e, hb, hc, h1, h2, h3, h4⟩
  · exact ⟨none, 0, by rw [e, h0], by omega, fun h => by omega⟩
  · exact ⟨_, cap, e, h1, fun _ => ⟨g, rfl⟩⟩
theorem OWS.row {w : World} {B g n cap : Nat} {S : List SetV} (h : OWS w B (.slice (some ⟨g, 0, none⟩) n cap) S) : ∃ cur, w.heap[g]? = some (.cells cur 38 (0, 0)) := by
  rcases h.2 with ⟨e, h0⟩ | ⟨g', cap', cur, e, hb, hc, h1, h2, h3, h4⟩
  · cases e
  · injection e with e1 _ _
    injection e1 with e1
    injection e1 with e1
    subst e1
    exact ⟨cur, hc⟩
/-- The first i turned. -/
def mapTo (f : SetV → SetV) (i : Nat) (M : List SetV) : List SetV := (M.take i).map f ++ M.drop i
theorem mapTo_0 (f : SetV → SetV) (M : List SetV) : mapTo f 0 M = M := by simp [mapTo]
theorem mapTo_all (f : SetV → SetV) (M : List SetV) : mapTo f M.length M = M.map f := by simp [mapTo]
theorem mapTo_len (f : SetV → SetV) (i : Nat) (M : List SetV) : (mapTo f i M).length = M.length := by
  unfold mapTo
  rw [List.length_append, List.length_map, List.length_take, List.length_drop]
  omega
theorem mapTo_at (f : SetV → SetV) {i : Nat} {M : List SetV} {q : SetV} (h : M[i]? = some q) : (mapTo f i M)[i]? = some q := by
  obtain ⟨hi, _⟩ := List.getElem?_eq_some_iff.1 h
  unfold mapTo
  rw [List.getElem?_append_right (by rw [List.length_map, List.length_take]; omega), List.length_map, List.length_take, List.getElem?_drop, show i + (i - min i M.length) = i by omega]
  exact h
theorem mapTo_next (f : SetV → SetV) {i : Nat} {M : List SetV} {q : SetV} (h : M[i]? = some q) : mapTo f (i + 1) M = (mapTo f i M).set i (f q) := by
  obtain ⟨hi, e⟩ := List.getElem?_eq_some_iff.1 h
  unfold mapTo
  rw [List.take_add_one, h, List.map_append, List.append_assoc, List.set_append_right _ _ (by rw [List.length_map, List.length_take]; omega), List.length_map, List.length_take, show i - min i M.length = 0 by omega, List.drop_eq_getElem_cons hi]
  rfl
theorem mapTo_same (f : SetV → SetV) {i : Nat} {M : List SetV} {q : SetV} (h : M[i]? = some q) (hf : f q = q) : mapTo f (i + 1) M = mapTo f i M := by
  rw [mapTo_next f h, hf]
  obtain ⟨h1, h2⟩ := List.getElem?_eq_some_iff.1 (mapTo_at f h)
  rw [← h2]
  exact List.set_getElem_self h1
theorem setR_nm {AR : Array Value} {s : SetV} (h : SetR AR s) (n : ByteArray) : SetR (AR.setIfInBounds 0 (.string n)) ⟨n, s.fr, s.sn, s.rt⟩ := by
  have e : (setRow ⟨n, s.fr, s.sn, s.rt⟩).toArray = AR.setIfInBounds 0 (.string n) := by
    rw [← h.eq]
    rfl
  obtain ⟨BR, hb⟩ := setR ⟨n, s.fr, s.sn, s.rt⟩
  rw [← e, hb.eq]
  exact hb
set_option maxRecDepth 100000 in
set_option maxHeartbeats 3200000 in
theorem pren15 (v : Value) (l : List SetV) (o n : ByteArray) (w : World) (h : LS w v l) (hs : l.length < 1000) (ho : ∀ s ∈ l, SetOk s) (hzn : n.size ≤ 140737488351232) :
    Calls Try.prog 26 #[v, .string o, .string n] w fun e w' => DoPost w (renD l o n) e w' := by
  have HF := Lib.hid (pfind15 v l o w h (by omega) ho)
  unfold FindPost at HF
  obtain ⟨ZS, hzs⟩ := setR zeroSet
  have hz := zero_set
  rw [hzs.eq] at hz
  have HZ := Lib.hid hzs
  clear hzs
  by_cases hf : (findD l o).2 = 0
  · obtain ⟨hv, hm, hn⟩ := find_cases l o hf
    rw [hf] at HF
    obtain ⟨s, hs0⟩ : ∃ s, (findD l o).1 = s := ⟨_, rfl⟩
    rw [hs0] at HF hm hn
    obtain ⟨AR, har⟩ := setR s
    rw [har.eq] at HF
    have HAR := Lib.hid har
    have HNW := Lib.hid (fun W (b : Below w.heap.size w W) => pnew15 v l n W (h.below b) (by omega) hv.ris hzn)
    by_cases hg : freshE l n = 0
    · have HE := Lib.hid (show renD l o n = (0, renL l o n s) by unfold renD; rw [if_pos hf, if_pos hg, hs0])
      rw [hg] at HNW
      have hfr := (fresh_iff.1 hg).2
      have HLN := Lib.hid (len_less hv.ris (mem_nms.2 ⟨s, hm, hn⟩))
      have HLS := Lib.hid (show l.length < 1000 from hs)
      have HRI := Lib.hid (show Rising (nms ((lessL l o).map (renS o n))) by rw [nms_ren]; exact nms_sub List.filter_sublist hv.ris)
      have HFR := Lib.hid (show n ∉ nms ((lessL l o).map (renS o n)) from nmem_ren hfr)
      have HWO := Lib.hid (fun W (b : Below w.heap.size w W) => pwithout15 v l o W (h.below b) (by omega) hv.ris (mem_nms.2 ⟨s, hm, hn⟩))
      clear har h hs ho hf hs0 hm hn hv hg hfr
      go_enter Try.func26, Try.ntmps26
      go_wp2_with fail
      refine HF.out.mono ?_
      rintro e w2 ⟨rfl, hb2⟩
      have HB2 := Lib.hid hb2
      clear hb2
      go_upto_region 2 with (first
        | (with_reducible refine wpList_store_row (o := ⟨none, .store _ (.tmp 8) _, _, _, _, _⟩) rfl 38 _ _ rfl w2.heap.size AR rfl rfl 38 ZS (heap_alloc_new w2 _) HAR.out.sz (HZ.out.same HAR.out) HAR.out.one ?_))
      generalize hWs : World.setRow _ w2.heap.size _ = w3
      have hst := fresh15 w2 ZS AR 38 w3 hWs.symm
      have HR3 := Lib.hid hst.1
      have HB3 := Lib.hid (bt15 HB2.out hst.2)
      obtain ⟨d0, d1, d2, d3⟩ := set_atR hst.1 HAR.out
      have HP3 := Lib.hid d3
      have HXk := Lib.hid HB2.out.size
      clear hWs hst d3 HF
      generalize w2.heap.size = X at *
      have HXl := Lib.hid (lt_of_block HR3.out)
      go_wp2_with fail
      refine (HNW.out _ HB3.out).mono ?_
      rintro e w4 ⟨rfl, hb4⟩
      have HB4 := Lib.hid (bt15 HB3.out hb4)
      have HR4 := Lib.hid ((hb4.block X HXl.out).trans HR3.out)
      clear hb4 HNW d0 d1 d2 HP3 HR3 HB3
      go_wp2_with fail
      refine (HWO.out _ HB4.out).mono ?_
      rintro e w5 ⟨v5, rfl, ho5, hb5⟩
      clear HWO
      obtain ⟨M, hM⟩ : ∃ M, lessL l o = M := ⟨_, rfl⟩
      have HMM := Lib.hid hM
      rw [hM] at ho5 HLN HRI HFR
      clear hM
      obtain ⟨av, cv, rfl, hcv, hsome⟩ := ho5.some_
      have HSM := Lib.hid hsome
      have HO5 := Lib.hid ho5
      have HB5 := Lib.hid hb5
      obtain ⟨k, hk⟩ : ∃ k, M.length = k := ⟨_, rfl⟩
      have HK := Lib.hid hk
      rw [hk] at HSM HO5 ⊢
      have kI : (k : Int) ≤ 1000 := by have := HLN.out; have := HLS.out; omega
      have k0 : (0 : Int) ≤ (k : Int) := by omega
      clear ho5 hb5 hcv hk hsome
      go_wp2_with fail
      go_loopw [12, 33] (fun _ v33 wr => ∃ i : Nat, i ≤ k ∧ v33 = .int .i64 (i : Int) ∧ OWS wr w4.heap.size (.slice av k cv) (mapTo (renS o n) i M) ∧ Below w4.heap.size w4 wr) (fun _ v _ => k - (intOf v).toNat)
      case atStart => exact ⟨0, Nat.zero_le _, rfl, by rw [mapTo_0]; exact HO5.out, HB5.out⟩
      case round =>
        clear HO5 HB5
        obtain ⟨i, hi, rfl, ho6, hb6⟩ := hrel
        have HO := Lib.hid ho6
        have HB := Lib.hid hb6
        clear ho6 hb6
        by_cases hlt : i < k
        · obtain ⟨g, rfl⟩ := HSM.out (by omega)
          obtain ⟨q, hq⟩ : ∃ q, M[i]? = some q := ⟨_, List.getElem?_eq_getElem (by rw [HK.out]; exact hlt)⟩
          obtain ⟨hrg, hg1, hg2⟩ := HO.out.cell (mapTo_at (renS o n) hq)
          obtain ⟨_, e1, _, _⟩ := set_range hrg
          have hix := index_set g 0 k cv i hlt
          simp only [Nat.zero_add] at hix
          have HLT := Lib.hid hlt
          have HQ := Lib.hid hq
          have HG := Lib.hid (And.intro hg1 hg2)
          have iI : (i : Int) < (k : Int) := by omega
          have i0 : (0 : Int) ≤ (i : Int) := by omega
          have hsb := str_beq q.fr o
          clear hi hlt hq hrg hg1 hg2
          by_cases hf : q.fr = o
          · rw [decide_eq_true hf] at hsb
            obtain ⟨cur, hcur⟩ := HO.out.row
            have hfz := frozen_of_row wr g (i * 37 + 1) _ _ hcur
            clear hcur
            have HO2 := Lib.hid (show OWS (wr.setCell ⟨g, i * 37 + 1, none⟩ (.string n)) w4.heap.size (.slice (some ⟨g, 0, none⟩) k cv) (mapTo (renS o n) (i + 1) M) by rw [mapTo_next _ HQ.out, show renS o n q = ⟨q.nm, n, q.sn, q.rt⟩ by unfold renS; rw [if_pos hf]]; exact ows_setfr HO.out (mapTo_at _ HQ.out) n)
            have HB2 := Lib.hid (HB.out.setCell (p := ⟨g, i * 37 + 1, none⟩) HG.out.1 (.string n))
            clear hf
            go_wp2_with fail
            go_roundw
            case rel => exact ⟨i + 1, by have := HLT.out; omega, by go_num, HO2.out, HB2.out⟩
            case measure => simp [intOf]; have := HLT.out; omega
          · rw [decide_eq_false hf] at hsb
            have HO2 := Lib.hid (show OWS wr w4.heap.size (.slice (some ⟨g, 0, none⟩) k cv) (mapTo (renS o n) (i + 1) M) by rw [mapTo_same _ HQ.out (by unfold renS; rw [if_neg hf])]; exact HO.out)
            clear hf
            go_wp2_with fail
            go_roundw
            case rel => exact ⟨i + 1, by have := HLT.out; omega, by go_num, HO2.out, HB.out⟩
            case measure => simp [intOf]; have := HLT.out; omega
        · obtain rfl : k = i := by omega
          have HO2 := Lib.hid (show OWS wr w4.heap.size (.slice av k cv) (M.map (renS o n)) by rw [← mapTo_all, HK.out]; exact HO.out)
          have HR := Lib.hid ((HB.out.block X (lt_of_block HR4.out)).trans HR4.out)
          have hAB := setR_nm HAR.out n
          have HAB := Lib.hid hAB
          have hr7 : (wr.setCell ⟨X, 0, none⟩ (.string n)).heap[X]? = some (.cells (AR.setIfInBounds 0 (.string n)) 38 (0, 0)) := heap_setCell_same wr X 0 AR _ _ HR.out
          obtain ⟨c0, _, _, _⟩ := set_atR HR.out HAR.out
          have ho7 : OWS (wr.setCell ⟨X, 0, none⟩ (.string n)) w4.heap.size (.slice av k cv) (M.map (renS o n)) := HO2.out.move (fun g hg => heap_setCell_other wr _ g _ (by have := (World.ownsRow.lt HO2.out g hg).1; have := lt_of_block HR4.out; show g ≠ X; omega))
          have hb7 : Below w.heap.size w (wr.setCell ⟨X, 0, none⟩ (.string n)) := (bt15 HB4.out HB.out).setCell (p := ⟨X, 0, none⟩) HXk.out _
          have HO7 := Lib.hid ho7
          have HB7 := Lib.hid hb7
          have HR7 := Lib.hid hr7
          have HWI := Lib.hid (fun W (hL : LS W (.slice av k cv) (M.map (renS o n))) => hAB.eq ▸ pwith15 (.slice av k cv) (M.map (renS o n)) ⟨n, s.fr, s.sn, s.rt⟩ W hL (by rw [List.length_map, HK.out]; have := HLN.out; have := HLS.out; have := HK.out; omega) HRI.out HFR.out)
          have HEE := Lib.hid (show renD l o n = (0, withL (M.map (renS o n)) ⟨n, s.fr, s.sn, s.rt⟩) by rw [HE.out]; unfold renL; rw [HMM.out])
          clear hi hlt HO HB hAB hr7 ho7 hb7 HE HMM
          obtain ⟨BR, hBR⟩ : ∃ z, AR.setIfInBounds 0 (.string n) = z := ⟨_, rfl⟩
          rw [hBR] at HR7 HAB HWI
          clear hBR
          have hrx := frozen_of_row wr X 0 _ _ HR.out
          go_upto_region 15 with fail
          generalize wr.setCell ⟨X, 0, none⟩ (.string n) = w7 at *
          go_wp2_with (first
            | (with_reducible refine wpList_load_row (o := ⟨some 52, _, _, _, _, _⟩) rfl 38 _ rfl X rfl 38 BR (0, 0) _ HR7.out Try.underlying38 rfl HAB.out.sz ?_))
          refine (HWI.out _ HO7.out.ls).mono ?_
          rintro e w8 ⟨v8, rfl, ho8, hb8⟩
          have HO8 := Lib.hid (ho8.up HB7.out.size)
          have HB8 := Lib.hid (bt15 HB7.out hb8)
          clear ho8 hb8
          go_wp2_with fail
          go_ret2
          exact ⟨_, by rw [HEE.out]; rfl, by rw [HEE.out]; exact HO8.out, HB8.out⟩
    · have HE := Lib.hid (show renD l o n = (freshE l n, []) by unfold renD; rw [if_pos hf, if_neg hg])
      clear har h hs ho hf hs0 hm hn hv
      generalize freshE l n = E at *
      have h1 : (E == 0) = false := by simpa using hg
      have h2 : decide (E = 0) = false := by simpa using hg
      have h3 : (E != 0) = true := by simpa using hg
      go_enter Try.func26, Try.ntmps26
      go_wp2_with fail
      refine HF.out.mono ?_
      rintro e w2 ⟨rfl, hb2⟩
      have HB2 := Lib.hid hb2
      clear hb2
      go_upto_region 2 with (first
        | (with_reducible refine wpList_store_row (o := ⟨none, .store _ (.tmp 8) _, _, _, _, _⟩) rfl 38 _ _ rfl w2.heap.size AR rfl rfl 38 ZS (heap_alloc_new w2 _) HAR.out.sz (HZ.out.same HAR.out) HAR.out.one ?_))
      generalize hWs : World.setRow _ w2.heap.size _ = w3
      have hst := fresh15 w2 ZS AR 38 w3 hWs.symm
      have HR3 := Lib.hid hst.1
      have HB3 := Lib.hid (bt15 HB2.out hst.2)
      obtain ⟨d0, d1, d2, d3⟩ := set_atR hst.1 HAR.out
      have HP3 := Lib.hid d3
      have HXk := Lib.hid HB2.out.size
      clear hWs hst d3 HF
      generalize w2.heap.size = X at *
      go_wp2_with fail
      refine (HNW.out _ HB3.out).mono ?_
      rintro e w4 ⟨rfl, hb4⟩
      have HB4 := Lib.hid (bt15 HB3.out hb4)
      clear hb4
      go_wp2_with fail
      go_ret2
      exact ⟨_, by rw [HE.out]; rfl, by rw [HE.out]; exact OWS.nil _ _, HB4.out⟩
  · have HE := Lib.hid (show renD l o n = ((findD l o).2, []) by unfold renD; rw [if_neg hf])
    obtain ⟨AR, har⟩ := setR (findD l o).1
    rw [har.eq] at HF
    have HAR := Lib.hid har
    clear har h hs ho
    generalize (findD l o).2 = E at *
    have h1 : (E == 0) = false := by simpa using hf
    have h2 : decide (E = 0) = false := by simpa using hf
    have h3 : (E != 0) = true := by simpa using hf
    go_enter Try.func26, Try.ntmps26
    go_wp2_with fail
    refine HF.out.mono ?_
    rintro e w2 ⟨rfl, hb2⟩
    have HB2 := Lib.hid hb2
    clear hb2
    go_wp2_with (first
      | (with_reducible refine wpList_store_row (o := ⟨none, .store _ (.tmp 8) _, _, _, _, _⟩) rfl 38 _ _ rfl w2.heap.size AR rfl rfl 38 ZS (heap_alloc_new w2 _) HAR.out.sz (HZ.out.same HAR.out) HAR.out.one ?_))
    go_ret2
    exact ⟨_, by rw [HE.out]; rfl, by rw [HE.out]; exact OWS.nil _ _, ybelow_row (HB2.out.alloc HB2.out.size _) HB2.out.size _⟩
/-- The act's cells, in a block of its own. -/
theorem dopost_up {w w1 W : World} {X : Int × List SetV} {e : Ending} (hb : Below w.heap.size w w1) (h : DoPost w1 X e W) : DoPost w X e W := by
  obtain ⟨v', e1, ho, h2⟩ := h
  exact ⟨v', e1, ho.up hb.size, bt15 hb h2⟩
set_option maxRecDepth 100000 in
set_option maxHeartbeats 3200000 in
theorem pdo15 (v : Value) (l : List SetV) (k : Int) (a b : ByteArray) (w : World) (h : LS w v l) (hs : l.length < 1000) (ho : ∀ s ∈ l, SetOk s) (hza : a.size ≤ 140737488351232) (hzb : b.size ≤ 140737488351232) :
    Calls Try.prog 12 #[v, .agg #[.int .i64 k, .string a, .string b]] w fun e w' => DoPost w (doD l k a b) e w' := by
  have hb0 := ba15 w (.cells #[.int .i64 k, .string a, .string b] 27)
  have hl := h.below hb0
  have HB := Lib.hid hb0
  have hnw := new15 w (.cells #[.int .i64 k, .string a, .string b] 27)
  have c0 := cell_of_row _ w.heap.size 0 _ _ _ hnw
  have c1 := cell_of_row _ w.heap.size 1 _ _ _ hnw
  have c2 := cell_of_row _ w.heap.size 2 _ _ _ hnw
  have Hsnap := Lib.hid (fun W (q : Below w.heap.size w W) => psnap15 v l a b W (h.below q) hs ho hzb)
  have Hclone := Lib.hid (fun W (q : Below w.heap.size w W) => pclone15 v l a b W (h.below q) hs ho hzb)
  have Hdest := Lib.hid (fun W (q : Below w.heap.size w W) => pdest15 v l a W (h.below q) hs ho)
  have Hren := Lib.hid (fun W (q : Below w.heap.size w W) => pren15 v l a b W (h.below q) hs ho hzb)
  have Hcreate := Lib.hid (fun W (q : Below w.heap.size w W) => pcreate15 v l a W (h.below q) hs ho hza)
  clear hb0 hl hnw h ho hs
  by_cases h1 : k = 1
  · subst h1
    have HE := Lib.hid (show doD l 1 a b = snapD l a b by unfold doD; rw [if_pos rfl])
    go_enter Try.func12, Try.ntmps12
    go_wp2_with fail
    refine (Hsnap.out _ HB.out).mono ?_
    intro e w2 hp
    have hp := dopost_up HB.out hp
    rw [← HE.out] at hp
    obtain ⟨v', rfl, ho2, hb2⟩ := hp
    have HO := Lib.hid ho2
    have HB2 := Lib.hid hb2
    clear ho2 hb2
    go_wp2_with fail
    go_ret2
    exact ⟨_, rfl, HO.out, HB2.out⟩
  · by_cases h2 : k = 2
    · subst h2
      have HE := Lib.hid (show doD l 2 a b = cloneD l a b by unfold doD; rw [if_neg (by decide)]; rw [if_pos rfl])
      go_enter Try.func12, Try.ntmps12
      go_wp2_with fail
      refine (Hclone.out _ HB.out).mono ?_
      intro e w2 hp
      have hp := dopost_up HB.out hp
      rw [← HE.out] at hp
      obtain ⟨v', rfl, ho2, hb2⟩ := hp
      have HO := Lib.hid ho2
      have HB2 := Lib.hid hb2
      clear ho2 hb2
      go_wp2_with fail
      go_ret2
      exact ⟨_, rfl, HO.out, HB2.out⟩
    · by_cases h3 : k = 3
      · subst h3
        have HE := Lib.hid (show doD l 3 a b = destD l a by unfold doD; rw [if_neg (by decide)]; rw [if_neg (by decide)]; rw [if_pos rfl])
        go_enter Try.func12, Try.ntmps12
        go_wp2_with fail
        refine (Hdest.out _ HB.out).mono ?_
        intro e w2 hp
        have hp := dopost_up HB.out hp
        rw [← HE.out] at hp
        obtain ⟨v', rfl, ho2, hb2⟩ := hp
        have HO := Lib.hid ho2
        have HB2 := Lib.hid hb2
        clear ho2 hb2
        go_wp2_with fail
        go_ret2
        exact ⟨_, rfl, HO.out, HB2.out⟩
      · by_cases h4 : k = 4
        · subst h4
          have HE := Lib.hid (show doD l 4 a b = renD l a b by unfold doD; rw [if_neg (by decide)]; rw [if_neg (by decide)]; rw [if_neg (by decide)]; rw [if_pos rfl])
          go_enter Try.func12, Try.ntmps12
          go_wp2_with fail
          refine (Hren.out _ HB.out).mono ?_
          intro e w2 hp
          have hp := dopost_up HB.out hp
          rw [← HE.out] at hp
          obtain ⟨v', rfl, ho2, hb2⟩ := hp
          have HO := Lib.hid ho2
          have HB2 := Lib.hid hb2
          clear ho2 hb2
          go_wp2_with fail
          go_ret2
          exact ⟨_, rfl, HO.out, HB2.out⟩
        · have e1 : (k == 1) = false := by simpa using h1
          have e2 : (k == 2) = false := by simpa using h2
          have e3 : (k == 3) = false := by simpa using h3
          have e4 : (k == 4) = false := by simpa using h4
          have HE := Lib.hid (show doD l k a b = createD l a by unfold doD; rw [if_neg h1]; rw [if_neg h2]; rw [if_neg h3]; rw [if_neg h4]; skip)
          go_enter Try.func12, Try.ntmps12
          go_wp2_with fail
          refine (Hcreate.out _ HB.out).mono ?_
          intro e w2 hp
          have hp := dopost_up HB.out hp
          rw [← HE.out] at hp
          obtain ⟨v', rfl, ho2, hb2⟩ := hp
          have HO := Lib.hid ho2
          have HB2 := Lib.hid hb2
          clear ho2 hb2
          go_wp2_with fail
          go_ret2
          exact ⟨_, rfl, HO.out, HB2.out⟩
end Go.Proofs.Ytkafabcklohlmaa
