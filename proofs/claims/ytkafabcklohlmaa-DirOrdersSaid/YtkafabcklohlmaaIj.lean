/-
  Datasets: the document's Check, Index, Valid, Find, fresh. (Written by tools/XIj.make.py.)
-/
import Derived.Test.YtkafabcklohlmaaIi
namespace Go.Proofs.Ytkafabcklohlmaa
set_option maxRecDepth 4000
set_option linter.unusedVariables false
open Go.ChangeShapes Go.WideShapes Go.ChangeAt Go.RowKit

theorem chk_two (q : PtrV) : checkE q 4096 = 0 ∨ checkE q 4096 = 4 := by unfold checkE; split; exact .inl rfl; exact .inr rfl
set_option maxRecDepth 100000 in
set_option maxHeartbeats 3200000 in
theorem rcheck15 (s : SetV) (ho : SetOk s) (w : World) : Calls Try.prog 24 #[.agg (setRow s).toArray] w fun e w' => e = .returned (.int .i64 (checkS s)) ∧ Below w.heap.size w w' := by
  obtain ⟨AR, hr⟩ := setR s
  rw [hr.eq]
  have hn := new15 w (.cells AR 38)
  obtain ⟨c0, c1, c2, c3⟩ := set_atR hn hr
  have HB := Lib.hid (ba15 w (.cells AR 38))
  have HRG := Lib.hid c3
  have HNM := Lib.hid (fun W => rname15 s.nm ho.ns W)
  have HCK := Lib.hid (fun W => rcheck_any s.rt 4096 (by decide) W)
  have HOK := Lib.hid (ok_split s)
  have zI : (s.fr.size : Int) ≤ 140737488351232 := by have := ho.fs; omega
  have hsn := str_no s.fr
  clear hr hn c3 ho
  obtain ⟨nm, fr, sn, rt⟩ := s
  dsimp only at *
  obtain ⟨PR, hPR⟩ : ∃ z, (ptrRow rt).toArray = z := ⟨_, rfl⟩
  rw [hPR] at HCK
  have HPR := Lib.hid hPR
  clear hPR
  cases hm : mayN nm with
  | false =>
    rw [hm] at HNM HOK
    clear hm
    go_enter Try.func24, Try.ntmps24
    go_wp2_with fail
    refine (HNM.out _).mono ?_
    rintro e w1 ⟨rfl, hw⟩
    subst hw
    go_wp2_with fail
    go_ret
    exact ⟨(by unfold checkS; rw [HOK.out]; rfl), HB.out⟩
  | true =>
    rw [hm] at HNM HOK
    clear hm
    by_cases h32 : fr.size ≤ 32
    · have hI : ¬ ((32 : Int) < (fr.size : Int)) := by omega
      have hd : decide ((32 : Int) < (fr.size : Int)) = false := decide_eq_false hI
      rw [decide_eq_true h32] at HOK
      clear h32
      cases sn with
      | false =>
        have hs0 : (false && decide (fr = noS)) = false := rfl
        rw [hs0] at HOK
        clear hs0 hsn
        rcases chk_two rt with hc | hc
        · rw [hc] at HCK HOK
          clear hc
          go_enter Try.func24, Try.ntmps24
          go_wp2_with fail
          refine (HNM.out _).mono ?_
          rintro e w1 ⟨rfl, hw⟩
          subst hw
          go_wp2_with (first
            | (with_reducible refine ld_ptr15 (op := ⟨some 24, _, _, _, _, _⟩) (by kernel_rfl) _ rfl w.heap.size 3 rfl rt _ HPR.out HRG.out ?_))
          refine (HCK.out _).mono ?_
          rintro e w2 ⟨rfl, hb2⟩
          have HB2 := Lib.hid (bt15 HB.out hb2)
          clear hb2
          go_wp2_with fail
          go_ret
          exact ⟨(by unfold checkS; rw [HOK.out]; rfl), HB2.out⟩
        · rw [hc] at HCK HOK
          clear hc
          go_enter Try.func24, Try.ntmps24
          go_wp2_with fail
          refine (HNM.out _).mono ?_
          rintro e w1 ⟨rfl, hw⟩
          subst hw
          go_wp2_with (first
            | (with_reducible refine ld_ptr15 (op := ⟨some 24, _, _, _, _, _⟩) (by kernel_rfl) _ rfl w.heap.size 3 rfl rt _ HPR.out HRG.out ?_))
          refine (HCK.out _).mono ?_
          rintro e w2 ⟨rfl, hb2⟩
          have HB2 := Lib.hid (bt15 HB.out hb2)
          clear hb2
          go_wp2_with fail
          go_ret
          exact ⟨(by unfold checkS; rw [HOK.out]; rfl), HB2.out⟩
      | true =>
        by_cases hfr : fr = noS
        · rw [decide_eq_true hfr] at HOK hsn
          clear hfr
          go_enter Try.func24, Try.ntmps24
          go_wp2_with fail
          refine (HNM.out _).mono ?_
          rintro e w1 ⟨rfl, hw⟩
          subst hw
          go_wp2_with fail
          go_ret
          exact ⟨(by unfold checkS; rw [HOK.out]; rfl), HB.out⟩
        · rw [decide_eq_false hfr] at HOK hsn
          clear hfr
          rcases chk_two rt with hc | hc
          · rw [hc] at HCK HOK
            clear hc
            go_enter Try.func24, Try.ntmps24
            go_wp2_with fail
            refine (HNM.out _).mono ?_
            rintro e w1 ⟨rfl, hw⟩
            subst hw
            go_wp2_with (first
              | (with_reducible refine ld_ptr15 (op := ⟨some 24, _, _, _, _, _⟩) (by kernel_rfl) _ rfl w.heap.size 3 rfl rt _ HPR.out HRG.out ?_))
            refine (HCK.out _).mono ?_
            rintro e w2 ⟨rfl, hb2⟩
            have HB2 := Lib.hid (bt15 HB.out hb2)
            clear hb2
            go_wp2_with fail
            go_ret
            exact ⟨(by unfold checkS; rw [HOK.out]; rfl), HB2.out⟩
          · rw [hc] at HCK HOK
            clear hc
            go_enter Try.func24, Try.ntmps24
            go_wp2_with fail
            refine (HNM.out _).mono ?_
            rintro e w1 ⟨rfl, hw⟩
            subst hw
            go_wp2_with (first
              | (with_reducible refine ld_ptr15 (op := ⟨some 24, _, _, _, _, _⟩) (by kernel_rfl) _ rfl w.heap.size 3 rfl rt _ HPR.out HRG.out ?_))
            refine (HCK.out _).mono ?_
            rintro e w2 ⟨rfl, hb2⟩
            have HB2 := Lib.hid (bt15 HB.out hb2)
            clear hb2
            go_wp2_with fail
            go_ret
            exact ⟨(by unfold checkS; rw [HOK.out]; rfl), HB2.out⟩
    · have hI : (32 : Int) < (fr.size : Int) := by omega
      rw [decide_eq_false h32] at HOK
      clear h32
      go_enter Try.func24, Try.ntmps24
      go_wp2_with fail
      refine (HNM.out _).mono ?_
      rintro e w1 ⟨rfl, hw⟩
      subst hw
      go_wp2_with fail
      go_ret
      exact ⟨(by unfold checkS; rw [HOK.out]; rfl), HB.out⟩
/-- Where one of a name stands; -1: nowhere. -/
def idxD (l : List SetV) (n : ByteArray) : Int := if hasK (nms l) n then ((rankK (nms l) n : Nat) : Int) else -1
theorem idx_at {l : List SetV} (hr : Rising (nms l)) {i : Nat} {q : SetV} (hq : l[i]? = some q) : idxD l q.nm = (i : Nat) := by
  have hqn : (nms l)[i]? = some q.nm := by unfold nms; rw [List.getElem?_map, hq]; rfl
  obtain ⟨hi, _⟩ := List.getElem?_eq_some_iff.1 hqn
  unfold idxD
  rw [if_pos (hasK_iff.2 (mem_nms.2 ⟨q, List.mem_of_getElem? hq, rfl⟩)), rank_at i (by omega) (fun x s hx hs => rising_at hr hx hs hqn) (fun x s hx hs => ?_)]
  rcases Nat.lt_or_ge i x with h | h
  · exact lo_asymm (rising_at hr h hqn hs)
  · obtain rfl : x = i := by omega
    rw [hqn] at hs
    cases hs
    exact lo_irr _
theorem idx_none {l : List SetV} {n : ByteArray} (h : ∀ s ∈ l, s.nm ≠ n) : idxD l n = -1 := by
  unfold idxD
  rw [if_neg]
  rw [hasK_iff, mem_nms]
  rintro ⟨s, hs, e⟩
  exact h s hs e
def V3 (l : List SetV) (i : Nat) (n : ByteArray) : Prop := ∀ s ∈ l.take i, s.nm ≠ n
theorem V3.next {l : List SetV} {i : Nat} {n : ByteArray} (h : V3 l i n) {q : SetV} (hq : l[i]? = some q) (hn : q.nm ≠ n) : V3 l (i + 1) n := fun s hs => by
  rw [take_next15 hq, List.mem_append, List.mem_singleton] at hs
  rcases hs with hs | rfl
  · exact h s hs
  · exact hn
set_option maxRecDepth 100000 in
set_option maxHeartbeats 3200000 in
theorem ridx15 (v : Value) (l : List SetV) (key : ByteArray) (w : World) (h : LS w v l) (hs : l.length ≤ 1000) (hr : Rising (nms l)) :
    Calls Try.prog 36 #[v, .string key] w fun e w' => e = .returned (.int .i64 (idxD l key)) ∧ Below w.heap.size w w' := by
  obtain ⟨a, c, rfl, hc, hat⟩ := h
  obtain ⟨n, hn⟩ : ∃ n, l.length = n := ⟨_, rfl⟩
  have HA := Lib.hid hat
  have HN := Lib.hid hn
  have HR := Lib.hid hr
  rw [hn]
  have nI : (n : Int) ≤ 1000 := by omega
  have n0 : (0 : Int) ≤ (n : Int) := by omega
  clear hat hs hc hn hr
  obtain ⟨ZS, hzs⟩ := setR zeroSet
  have hz := zero_set
  rw [hzs.eq] at hz
  have HZ := Lib.hid hzs
  clear hzs
  go_enter Try.func36, Try.ntmps36
  go_wp2_with fail
  go_loopw [5, 6, 9] (fun _ _ v9 wr => ∃ i : Nat, i ≤ n ∧ v9 = .int .i64 (i : Int) ∧ V3 l i key ∧ Below w.heap.size w wr) (fun _ _ v _ => n - (intOf v).toNat)
  case atStart => exact ⟨0, Nat.zero_le _, rfl, fun s hs => by simp at hs, Below.refl _ _⟩
  case round =>
    obtain ⟨i, hi, rfl, hv, hb⟩ := hrel
    have HB := Lib.hid hb
    have HV := Lib.hid hv
    clear hb hv
    by_cases hlt : i < n
    · obtain ⟨q, hq⟩ : ∃ q, l[i]? = some q := ⟨_, List.getElem?_eq_getElem (by rw [HN.out]; exact hlt)⟩
      obtain ⟨b, off, rfl, hrg⟩ := HA.out i q hq
      have HRG := Lib.hid (range_below hrg HB.out)
      have hix := index_set b off n c i hlt
      obtain ⟨AR, har⟩ := setR q
      have HAR := Lib.hid har
      have HQ := Lib.hid hq
      have HLT := Lib.hid hlt
      have iI : (i : Int) < (n : Int) := by omega
      have i0 : (0 : Int) ≤ (i : Int) := by omega
      clear hlt hrg hq hi
      go_upto_region 4 with (first
        | (with_reducible refine ld_set (op := ⟨some 13, _, _, _, _, _⟩) rfl _ rfl b (off + i * 37) rfl q _ HAR.out.eq HRG.out ?_)
        | (with_reducible refine wpList_store_row (o := ⟨none, .store _ (.tmp 6) _, _, _, _, _⟩) rfl 38 _ _ rfl wr.heap.size AR rfl rfl 38 ZS (heap_alloc_new wr _) HAR.out.sz (HZ.out.same HAR.out) HAR.out.one ?_))
      generalize hWs : World.setRow _ wr.heap.size _ = wk
      have hst := fresh15 wr ZS AR 38 wk hWs.symm
      have HRk := Lib.hid hst.1
      have HBk := Lib.hid (bt15 HB.out hst.2)
      obtain ⟨d0, d1, d2, d3⟩ := set_atR hst.1 har
      have HXk := Lib.hid (show w.heap.size ≤ wr.heap.size from HB.out.size)
      clear hWs hst hix har HRG
      generalize wr.heap.size = X at *
      have hsb := str_beq q.nm key
      by_cases hf : q.nm = key
      · rw [decide_eq_true hf] at hsb
        have HE := Lib.hid (show idxD l key = (i : Nat) from hf ▸ idx_at HR.out HQ.out)
        clear hf
        go_wp2_with fail
        go_ret
        exact ⟨by rw [HE.out]; rfl, HBk.out⟩
      · rw [decide_eq_false hf] at hsb
        have HNX := Lib.hid (HV.out.next HQ.out hf)
        clear hf
        go_wp2_with fail
        go_roundw
        case rel => exact ⟨i + 1, by have := HLT.out; omega, by go_num, HNX.out, HBk.out⟩
        case measure => simp [intOf]; have := HLT.out; omega
    · obtain rfl : n = i := by omega
      have HE := Lib.hid (idx_none (l := l) (n := key) (by have h := HV.out; unfold V3 at h; rw [List.take_of_length_le (by rw [HN.out]; exact Nat.le_refl _)] at h; exact h))
      clear hi hlt
      go_wp2_with fail
      go_ret
      exact ⟨by rw [HE.out]; rfl, HB.out⟩
set_option maxRecDepth 100000 in
set_option maxHeartbeats 3200000 in
theorem rnew15 (v : Value) (l : List SetV) (n : ByteArray) (w : World) (h : LS w v l) (hs : l.length ≤ 1000) (hr : Rising (nms l)) (hz : n.size ≤ 140737488351232) :
    Calls Try.prog 58 #[v, .string n] w fun e w' => e = .returned (.int .i64 (freshE l n)) ∧ Below w.heap.size w w' := by
  have HNM := Lib.hid (fun W => rname15 n hz W)
  have HPL := Lib.hid (ridx15 v l n w h hs hr)
  have HRK := Lib.hid (rank_facts hr n).2.2.2.2
  clear h hs hr hz
  cases hm : mayN n with
  | false =>
    have HE := Lib.hid (show freshE l n = 2 by unfold freshE; rw [hm]; rfl)
    rw [hm] at HNM
    clear hm
    go_enter Try.func58, Try.ntmps58
    go_wp2_with fail
    refine (HNM.out _).mono ?_
    rintro e w1 ⟨rfl, hw⟩
    subst hw
    go_wp2_with fail
    go_ret
    exact ⟨by rw [HE.out]; rfl, Below.refl _ _⟩
  | true =>
    rw [hm] at HNM
    unfold idxD at HPL
    cases hh : hasK (nms l) n with
    | false =>
      have HE := Lib.hid (show freshE l n = 0 by unfold freshE; rw [hm, hh]; rfl)
      rw [hh, if_neg (by decide)] at HPL
      clear hm hh
      go_enter Try.func58, Try.ntmps58
      go_wp2_with fail
      refine (HNM.out _).mono ?_
      rintro e w1 ⟨rfl, hw⟩
      subst hw
      go_wp2_with fail
      refine HPL.out.mono ?_
      rintro e w2 ⟨rfl, hb⟩
      have HB := Lib.hid hb
      clear hb
      go_wp2_with fail
      go_ret
      exact ⟨by rw [HE.out]; rfl, HB.out⟩
    | true =>
      have HE := Lib.hid (show freshE l n = 9 by unfold freshE; rw [hm, hh]; rfl)
      rw [hh, if_pos rfl] at HPL
      clear hm hh
      generalize rankK (nms l) n = r at *
      have r0 : (0 : Int) ≤ (r : Int) := by omega
      go_enter Try.func58, Try.ntmps58
      go_wp2_with fail
      refine (HNM.out _).mono ?_
      rintro e w1 ⟨rfl, hw⟩
      subst hw
      go_wp2_with fail
      refine HPL.out.mono ?_
      rintro e w2 ⟨rfl, hb⟩
      have HB := Lib.hid hb
      clear hb
      go_wp2_with fail
      go_ret
      exact ⟨by rw [HE.out]; rfl, HB.out⟩
end Go.Proofs.Ytkafabcklohlmaa
