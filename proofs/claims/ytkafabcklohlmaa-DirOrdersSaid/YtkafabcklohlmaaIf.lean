/-
  Datasets: the program's Find, isNew, add, Create, Snap, Clone. (Written by tools/XIf.make.py.)
-/
import Derived.Test.YtkafabcklohlmaaIe
namespace Go.Proofs.Ytkafabcklohlmaa
set_option maxRecDepth 4000
set_option linter.unusedVariables false
open Go.ChangeShapes Go.WideShapes Go.ChangeAt Go.RowKit

/-! ### put together of its parts -/
theorem built_set (parts : List (Nat × Value)) : Try.prog.built 38 parts = Instr.fill (#[(0, 1), (1, 1), (2, 1), (3, 34)][·]?) (setRow zeroSet).toArray parts := by kernel_rfl
theorem bset_nm (nm x fr : ByteArray) (sn : Bool) (rt : PtrV) (rest : List (Nat × Value)) : Instr.fill (#[(0, 1), (1, 1), (2, 1), (3, 34)][·]?) (setRow ⟨nm, fr, sn, rt⟩).toArray ((0, .string x) :: rest) = Instr.fill (#[(0, 1), (1, 1), (2, 1), (3, 34)][·]?) (setRow ⟨x, fr, sn, rt⟩).toArray rest :=
  fill_cons _ _ _ #[.string x] (.string x) 0 0 1 _ rfl rfl rfl (by simp [setRow_length]) (fun i => by
    unfold setRow
    match i with
    | 0 => simp
    | i + 1 => simp)
theorem bset_fr (nm x fr : ByteArray) (sn : Bool) (rt : PtrV) (rest : List (Nat × Value)) : Instr.fill (#[(0, 1), (1, 1), (2, 1), (3, 34)][·]?) (setRow ⟨nm, fr, sn, rt⟩).toArray ((1, .string x) :: rest) = Instr.fill (#[(0, 1), (1, 1), (2, 1), (3, 34)][·]?) (setRow ⟨nm, x, sn, rt⟩).toArray rest :=
  fill_cons _ _ _ #[.string x] (.string x) 1 1 1 _ rfl rfl rfl (by simp [setRow_length]) (fun i => by
    unfold setRow
    match i with
    | 0 => simp
    | 1 => simp
    | i + 2 => rw [if_neg (by simp)]; simp)
theorem bset_sn (nm fr : ByteArray) (sn x : Bool) (rt : PtrV) (rest : List (Nat × Value)) : Instr.fill (#[(0, 1), (1, 1), (2, 1), (3, 34)][·]?) (setRow ⟨nm, fr, sn, rt⟩).toArray ((2, .bool x) :: rest) = Instr.fill (#[(0, 1), (1, 1), (2, 1), (3, 34)][·]?) (setRow ⟨nm, fr, x, rt⟩).toArray rest :=
  fill_cons _ _ _ #[.bool x] (.bool x) 2 2 1 _ rfl rfl rfl (by simp [setRow_length]) (fun i => by
    unfold setRow
    match i with
    | 0 => simp
    | 1 => simp
    | 2 => simp
    | i + 3 => rw [if_neg (by simp)]; simp)
theorem bset_rt (nm fr : ByteArray) (sn : Bool) (rt x : PtrV) (rest : List (Nat × Value)) : Instr.fill (#[(0, 1), (1, 1), (2, 1), (3, 34)][·]?) (setRow ⟨nm, fr, sn, rt⟩).toArray ((3, .agg (ptrRow x).toArray) :: rest) = Instr.fill (#[(0, 1), (1, 1), (2, 1), (3, 34)][·]?) (setRow ⟨nm, fr, sn, x⟩).toArray rest :=
  fill_cons _ _ _ (ptrRow x).toArray (.agg (ptrRow x).toArray) 3 3 34 _ rfl rfl (by simp [ptrRow_length]) (by simp [setRow_length, ptrRow_length]) (fun i => by
    unfold setRow
    match i with
    | 0 => simp
    | 1 => simp
    | 2 => simp
    | i + 3 =>
      by_cases h : i < 34
      · rw [if_pos (by simp [ptrRow_length]; omega)]; simp
      · rw [if_neg (by simp [ptrRow_length]; omega)]
        simp only [List.getElem?_toArray, List.getElem?_cons_succ]
        rw [List.getElem?_eq_none (by rw [ptrRow_length]; omega), List.getElem?_eq_none (by rw [ptrRow_length]; omega)])
theorem build_set0 (W : World) : (Instr.build 38 #[]).run Try.prog W = .ok (.agg (setRow zeroSet).toArray) W :=
  run_build W 38 _ _ (by rw [built_set]; rfl)
theorem build_set1 (n : ByteArray) (W : World) : (Instr.build 38 #[(0, .string n)]).run Try.prog W = .ok (.agg (setRow ⟨n, noS, false, zeroPtr⟩).toArray) W :=
  run_build W 38 _ _ (by rw [built_set]; exact bset_nm noS n noS false zeroPtr [])
theorem build_set3 (n f : ByteArray) (r : PtrV) (W : World) : (Instr.build 38 #[(0, .string n), (1, .string f), (3, .agg (ptrRow r).toArray)]).run Try.prog W = .ok (.agg (setRow ⟨n, f, false, r⟩).toArray) W :=
  run_build W 38 _ _ (by rw [built_set]; exact (bset_nm noS n noS false zeroPtr _).trans ((bset_fr n f noS false zeroPtr _).trans (bset_rt n f false zeroPtr r [])))
theorem build_set4 (n f : ByteArray) (b : Bool) (r : PtrV) (W : World) : (Instr.build 38 #[(0, .string n), (1, .string f), (2, .bool b), (3, .agg (ptrRow r).toArray)]).run Try.prog W = .ok (.agg (setRow ⟨n, f, b, r⟩).toArray) W :=
  run_build W 38 _ _ (by rw [built_set]; exact (bset_nm noS n noS false zeroPtr _).trans ((bset_fr n f noS false zeroPtr _).trans ((bset_sn n f false b zeroPtr _).trans (bset_rt n f b zeroPtr r []))))
theorem build_set2 (n : ByteArray) (b : Bool) (W : World) : (Instr.build 38 #[(0, .string n), (2, .bool b)]).run Try.prog W = .ok (.agg (setRow ⟨n, noS, b, zeroPtr⟩).toArray) W :=
  run_build W 38 _ _ (by rw [built_set]; exact (bset_nm noS n noS false zeroPtr _).trans (bset_sn n noS false b zeroPtr []))
/-! ### acts -/
/-- What an act answers. -/
def DoPost (w : World) (X : Int × List SetV) (e : Ending) (w' : World) : Prop := ∃ v, e = .returned (.tuple #[v, .int .i64 X.1]) ∧ OWS w' w.heap.size v X.2 ∧ Below w.heap.size w w'
def FindPost (w : World) (X : SetV × Int) (e : Ending) (w' : World) : Prop := e = .returned (.tuple #[.agg (setRow X.1).toArray, .int .i64 X.2]) ∧ Below w.heap.size w w'
set_option maxRecDepth 100000 in
set_option maxHeartbeats 3200000 in
theorem pfind15 (v : Value) (l : List SetV) (n : ByteArray) (w : World) (h : LS w v l) (hs : l.length ≤ 1000) (ho : ∀ s ∈ l, SetOk s) :
    Calls Try.prog 14 #[v, .string n] w fun e w' => FindPost w (findD l n) e w' := by
  have HV := Lib.hid (fun W (b : Below w.heap.size w W) => pvalid15 v l W (h.below b) hs ho)
  have hnw := new15 w (.cells (setRow zeroSet).toArray 38)
  have HB := Lib.hid (ba15 w (.cells (setRow zeroSet).toArray 38))
  have hbn := build_set0
  obtain ⟨ZS, hzs⟩ := setR zeroSet
  have hz := zero_set
  rw [hzs.eq] at hz
  have HZ := Lib.hid hzs
  clear hzs
  rw [HZ.out.eq] at hbn hnw HB
  have HNW := Lib.hid hnw
  have HLS := Lib.hid h
  clear hnw h
  cases hv : validB l with
  | false =>
    have HE := Lib.hid (show findD l n = (zeroSet, 4) by unfold findD; rw [hv]; rfl)
    have hve : validE l = 4 := by unfold validE; rw [hv]; rfl
    rw [hve] at HV
    clear hv hve
    go_enter Try.func14, Try.ntmps14
    go_wp2_with fail
    refine (HV.out _ HB.out).mono ?_
    rintro e w2 ⟨rfl, hb2⟩
    have HN2 := Lib.hid ((hb2.block _ (lt_of_block HNW.out)).trans HNW.out)
    have HB2 := Lib.hid (bt15 HB.out hb2)
    clear hb2
    go_wp2_with (first
      | (with_reducible refine wpList_store_row (o := ⟨none, .store _ (.tmp 4) _, _, _, _, _⟩) rfl 38 _ _ rfl w.heap.size ZS rfl rfl 38 ZS HN2.out HZ.out.sz (HZ.out.same HZ.out) HZ.out.one ?_))
    refine bodyPost_ret (v := .tuple #[.agg ZS, .int .i64 4]) (results_cell_two Try.results14 _ _ w.heap.size 38 ZS (0, 0) _ rfl (setRow_heap _ w.heap.size _ ZS _ _ HN2.out) Try.underlying38 rfl HZ.out.sz _ (by simp)) rfl ?_
    exact ⟨by rw [HE.out, HZ.out.eq], ybelow_row HB2.out (Nat.le_refl _) _⟩
  | true =>
    have HVL := Lib.hid (valid_iff.1 hv)
    have hve : validE l = 0 := by unfold validE; rw [hv]; rfl
    rw [hve] at HV
    have HPL := Lib.hid (fun W (b : Below w.heap.size w W) => place15 v l n W (HLS.out.below b) hs HVL.out.ris)
    have HF0 := Lib.hid (show findD l n = (match atN l n with | some s => (s, 0) | none => (zeroSet, 8)) by unfold findD; rw [hv, if_pos rfl]; rfl)
    have HRF := Lib.hid (rank_facts HVL.out.ris n)
    clear hv hve
    go_enter Try.func14, Try.ntmps14
    go_wp2_with fail
    refine (HV.out _ HB.out).mono ?_
    rintro e w2 ⟨rfl, hb2⟩
    have HB2 := Lib.hid (bt15 HB.out hb2)
    have HN2 := Lib.hid ((hb2.block _ (lt_of_block HNW.out)).trans HNW.out)
    have HP2 := Lib.hid (HPL.out w2 HB2.out)
    clear hb2 HPL HV
    cases hh : hasK (nms l) n with
    | false =>
      have HE := Lib.hid (show findD l n = (zeroSet, 8) by rw [HF0.out, HRF.out.2.1, hh]; rfl)
      rw [hh] at HP2
      clear hh HF0
      go_wp2_with fail
      refine HP2.out.mono ?_
      rintro e w3 ⟨rfl, hb3⟩
      have HB3 := Lib.hid (bt15 HB2.out hb3)
      have HN3 := Lib.hid ((hb3.block _ (lt_of_block HN2.out)).trans HN2.out)
      clear hb3
      go_wp2_with (first
        | (with_reducible refine wpList_store_row (o := ⟨none, .store _ (.tmp 4) _, _, _, _, _⟩) rfl 38 _ _ rfl w.heap.size ZS rfl rfl 38 ZS HN3.out HZ.out.sz (HZ.out.same HZ.out) HZ.out.one ?_))
      refine bodyPost_ret (v := .tuple #[.agg ZS, .int .i64 8]) (results_cell_two Try.results14 _ _ w.heap.size 38 ZS (0, 0) _ rfl (setRow_heap _ w.heap.size _ ZS _ _ HN3.out) Try.underlying38 rfl HZ.out.sz _ (by simp)) rfl ?_
      exact ⟨by rw [HE.out, HZ.out.eq], ybelow_row HB3.out (Nat.le_refl _) _⟩
    | true =>
      have hlt := (HRF.out.2.2.2.1 hh).2
      obtain ⟨t, ht⟩ : ∃ t, l[rankK (nms l) n]? = some t := ⟨_, List.getElem?_eq_getElem hlt⟩
      have HE := Lib.hid (show findD l n = (t, 0) by rw [HF0.out, HRF.out.2.1, hh, if_pos rfl, ht])
      rw [hh] at HP2
      obtain ⟨a, c, rfl, hc, hat⟩ := HLS.out
      obtain ⟨b, off, rfl, hrg⟩ := hat _ t ht
      obtain ⟨AR, har⟩ := setR t
      have HAR := Lib.hid har
      generalize rankK (nms l) n = r at *
      have hix := index_set b off l.length c r hlt
      have rI : (r : Int) < (l.length : Int) := by omega
      have r0 : (0 : Int) ≤ (r : Int) := by omega
      have HRG := Lib.hid hrg
      clear hh HF0 ht hrg har hat hc hlt HRF HLS
      obtain ⟨ln, hln⟩ : ∃ z, l.length = z := ⟨_, rfl⟩
      rw [hln] at HP2 hix rI ⊢
      clear hln
      go_wp2_with fail
      refine HP2.out.mono ?_
      rintro e w3 ⟨rfl, hb3⟩
      have HB3 := Lib.hid (bt15 HB2.out hb3)
      have HN3 := Lib.hid ((hb3.block _ (lt_of_block HN2.out)).trans HN2.out)
      have HR3 := Lib.hid (range_below HRG.out HB3.out)
      clear hb3
      go_wp2_with (first
        | (with_reducible refine ld_set (op := ⟨some 27, _, _, _, _, _⟩) rfl _ rfl b (off + r * 37) rfl t _ HAR.out.eq HR3.out ?_)
        | (with_reducible refine wpList_store_row (o := ⟨none, .store _ (.tmp 4) _, _, _, _, _⟩) rfl 38 _ _ rfl w.heap.size AR rfl rfl 38 ZS HN3.out HAR.out.sz (HZ.out.same HAR.out) HAR.out.one ?_))
      refine bodyPost_ret (v := .tuple #[.agg AR, .int .i64 0]) (results_cell_two Try.results14 _ _ w.heap.size 38 AR (0, 0) _ rfl (setRow_heap _ w.heap.size _ AR _ _ HN3.out) Try.underlying38 rfl HAR.out.sz _ (by simp)) rfl ?_
      exact ⟨by rw [HE.out, HAR.out.eq], ybelow_row HB3.out (Nat.le_refl _) _⟩
set_option maxRecDepth 100000 in
set_option maxHeartbeats 3200000 in
theorem pnew15 (v : Value) (l : List SetV) (n : ByteArray) (w : World) (h : LS w v l) (hs : l.length ≤ 1000) (hr : Rising (nms l)) (hz : n.size ≤ 140737488351232) :
    Calls Try.prog 55 #[v, .string n] w fun e w' => e = .returned (.int .i64 (freshE l n)) ∧ Below w.heap.size w w' := by
  have HNM := Lib.hid (fun W => pname15 n hz W)
  have HPL := Lib.hid (place15 v l n w h hs hr)
  clear h hs hr hz
  cases hm : mayN n with
  | false =>
    have HE := Lib.hid (show freshE l n = 2 by unfold freshE; rw [hm]; rfl)
    rw [hm] at HNM
    clear hm
    go_enter Try.func55, Try.ntmps55
    go_wp2_with fail
    refine (HNM.out _).mono ?_
    rintro e w1 ⟨rfl, hw⟩
    subst hw
    go_wp2_with fail
    go_ret
    exact ⟨by rw [HE.out]; rfl, Below.refl _ _⟩
  | true =>
    rw [hm] at HNM
    cases hh : hasK (nms l) n with
    | false =>
      have HE := Lib.hid (show freshE l n = 0 by unfold freshE; rw [hm, hh]; rfl)
      rw [hh] at HPL
      clear hm hh
      go_enter Try.func55, Try.ntmps55
      go_wp2_with fail
      refine (HNM.out _).mono ?_
      rintro e w1 ⟨rfl, hw⟩
      subst hw
      go_wp2_with fail
      refine HPL.out.mono ?_
      rintro e w2 ⟨rfl, hb⟩
      have HB := Lib.hid hb
      clear hb
      go_wp2_with fail
      go_ret
      exact ⟨by rw [HE.out]; rfl, HB.out⟩
    | true =>
      have HE := Lib.hid (show freshE l n = 9 by unfold freshE; rw [hm, hh]; rfl)
      rw [hh] at HPL
      clear hm hh
      go_enter Try.func55, Try.ntmps55
      go_wp2_with fail
      refine (HNM.out _).mono ?_
      rintro e w1 ⟨rfl, hw⟩
      subst hw
      go_wp2_with fail
      refine HPL.out.mono ?_
      rintro e w2 ⟨rfl, hb⟩
      have HB := Lib.hid hb
      clear hb
      go_wp2_with fail
      go_ret
      exact ⟨by rw [HE.out]; rfl, HB.out⟩
set_option maxRecDepth 100000 in
set_option maxHeartbeats 3200000 in
theorem padd15 (v : Value) (l : List SetV) (s : SetV) (w : World) (h : LS w v l) (hs : l.length < 1000) (hr : Rising (nms l)) (hz : s.nm.size ≤ 140737488351232) :
    Calls Try.prog 57 #[v, .agg (setRow s).toArray] w fun e w' => DoPost w (addD l s) e w' := by
  obtain ⟨AR, har⟩ := setR s
  rw [har.eq]
  have HAR := Lib.hid har
  have hnw := new15 w (.cells AR 38)
  obtain ⟨c0, _, _, _⟩ := set_atR hnw har
  have HB := Lib.hid (ba15 w (.cells AR 38))
  have HN := Lib.hid hnw
  have HNW := Lib.hid (fun W (b : Below w.heap.size w W) => pnew15 v l s.nm W (h.below b) (by omega) hr hz)
  have HW := Lib.hid (fun W (b : Below w.heap.size w W) (hm : s.nm ∉ nms l) => har.eq ▸ pwith15 v l s W (h.below b) hs hr hm)
  clear har hnw h hs hr hz
  by_cases hf : freshE l s.nm = 0
  · have HE := Lib.hid (show addD l s = (0, withL l s) by unfold addD; rw [if_pos hf])
    have HM := Lib.hid (fresh_iff.1 hf).2
    rw [hf] at HNW
    clear hf
    go_enter Try.func57, Try.ntmps57
    go_wp2_with fail
    refine (HNW.out _ HB.out).mono ?_
    rintro e w1 ⟨rfl, hb⟩
    have HB1 := Lib.hid (bt15 HB.out hb)
    have HN1 := Lib.hid ((hb.block _ (lt_of_block HN.out)).trans HN.out)
    clear hb
    go_wp2_with (first
      | (with_reducible refine wpList_load_row (o := ⟨some 15, _, _, _, _, _⟩) rfl 38 _ rfl w.heap.size rfl 38 AR (0, 0) _ HN1.out Try.underlying38 rfl HAR.out.sz ?_))
    refine (HW.out _ HB1.out HM.out).mono ?_
    rintro e w2 ⟨v', rfl, ho, hb⟩
    have HO := Lib.hid (ho.up HB1.out.size)
    have HB2 := Lib.hid (bt15 HB1.out hb)
    clear ho hb
    go_wp2_with fail
    go_ret2
    exact ⟨_, by rw [HE.out]; rfl, by rw [HE.out]; exact HO.out, HB2.out⟩
  · have HE := Lib.hid (show addD l s = (freshE l s.nm, []) by unfold addD; rw [if_neg hf])
    generalize freshE l s.nm = E at *
    have h1 : (E == 0) = false := by simpa using hf
    have h2 : decide (E = 0) = false := by simpa using hf
    have h3 : (E != 0) = true := by simpa using hf
    go_enter Try.func57, Try.ntmps57
    go_wp2_with fail
    refine (HNW.out _ HB.out).mono ?_
    rintro e w1 ⟨rfl, hb⟩
    have HB1 := Lib.hid (bt15 HB.out hb)
    have HN1 := Lib.hid ((hb.block _ (lt_of_block HN.out)).trans HN.out)
    clear hb
    go_wp2_with fail
    go_ret2
    exact ⟨_, by rw [HE.out]; rfl, by rw [HE.out]; exact OWS.nil _ _, HB1.out⟩
end Go.Proofs.Ytkafabcklohlmaa
