/-
  Datasets: the document's Valid, Find. (Written by tools/XIk.make.py.)
-/
import Derived.Test.YtkafabcklohlmaaIj
import Derived.Test.YtkafabcklohlmaaBy
namespace Go.Proofs.Ytkafabcklohlmaa
set_option maxRecDepth 4000
set_option linter.unusedVariables false
open Go.ChangeShapes Go.WideShapes Go.ChangeAt Go.RowKit

theorem quiet_ld_set {ops : Array Oper} {w : World} {Q : Act → Prop} {a : Act} {o : Oper} {rest : List Oper} (hw : Region.wanted o (yielded ops a.tmps) = true) (x : Operand) (ho : o.op = .load 38 x)
    (b off : Nat) (hx : a.eval x = .pointer (some ⟨b, off, none⟩)) (q : SetV) (AR : Array Value) (hA : (setRow q).toArray = AR) (hC : w.rangeAt b off (setRow q))
    (h : wpQuiet Try.prog ops (fun w' => ∃ p : BelowBy w, w' = p.now) Q rest (a.put o.dst (.agg AR))) : wpQuiet Try.prog ops (fun w' => ∃ p : BelowBy w, w' = p.now) Q (o :: rest) a := by
  subst hA
  exact quiet_load_row hw 38 x ho b off hx (setRow q) _ (by_range hC) Try.underlying38 rfl (size_set q) h
theorem lo_no15 {s : ByteArray} (h : 1 ≤ s.size) : lo noS s = true := by
  rcases lo_tri noS s with c | c | c
  · exact c
  · rw [← c] at h; exact absurd h (by decide)
  · rw [lo_lt, decide_eq_true_iff] at c
    have e : noS.toList = [] := by rw [Lib.toList_data]; rfl
    rw [e] at c
    exact absurd c (List.not_lt_nil _)
/-- The first ones may be, and rise; a is the last one's name. -/
structure V4 (l : List SetV) (i : Nat) (a : ByteArray) : Prop where
  v : V1 l i a
  at_ : 0 < i → ∃ q, l[i - 1]? = some q ∧ q.nm = a
  no : i = 0 → a = noS
theorem V4.nil (l : List SetV) : V4 l 0 noS := ⟨V1.nil l, fun h => absurd h (Nat.lt_irrefl _), fun _ => rfl⟩
theorem V4.next {l : List SetV} {i : Nat} {a : ByteArray} (h : V4 l i a) {q : SetV} (hq : l[i]? = some q) (ho : okS q = true) (hl : lo a q.nm = true) : V4 l (i + 1) q.nm :=
  ⟨h.v.next hq ho hl, fun _ => ⟨q, hq, rfl⟩, fun h => absurd h (Nat.succ_ne_zero _)⟩
set_option maxRecDepth 100000 in
set_option maxHeartbeats 3200000 in
theorem rvalid15 (v : Value) (l : List SetV) (w : World) (h : LS w v l) (hs : l.length ≤ 1000) (ho : ∀ s ∈ l, SetOk s) :
    Calls Try.prog 18 #[v] w fun e w' => e = .returned (.int .i64 (validE l)) ∧ Below w.heap.size w w' := by
  have HIX := Lib.hid (fun hr W (b : Below w.heap.size w W) key => ridx15 v l key W (h.below b) hs hr)
  obtain ⟨a, c, rfl, hc, hat⟩ := h
  obtain ⟨n, hn⟩ : ∃ n, l.length = n := ⟨_, rfl⟩
  have HCK := Lib.hid (fun (q : SetV) (hq : q ∈ l) AR (h : SetR AR q) W => by have := rcheck15 q (ho q hq) W; rw [h.eq] at this; exact this)
  have HA := Lib.hid hat
  have HN := Lib.hid hn
  rw [hn] at HIX ⊢
  have nI : (n : Int) ≤ 1000 := by omega
  have n0 : (0 : Int) ≤ (n : Int) := by omega
  clear hat hs hc hn ho
  obtain ⟨ZS, hzs⟩ := setR zeroSet
  have hz := zero_set
  rw [hzs.eq] at hz
  have HZ := Lib.hid hzs
  clear hzs
  go_enter Try.func18, Try.ntmps18
  go_wp2_with fail
  go_loopw [3, 4, 10] (fun _ _ v10 wr => ∃ (i : Nat) (a : ByteArray), i ≤ n ∧ v10 = .int .i64 (i : Int) ∧ V4 l i a ∧ Below w.heap.size w wr) (fun _ _ v _ => n - (intOf v).toNat)
  case atStart => exact ⟨0, noS, Nat.zero_le _, rfl, V4.nil l, Below.refl _ _⟩
  case round =>
    obtain ⟨i, ah, hi, rfl, hv1, hb⟩ := hrel
    have HB := Lib.hid hb
    have HV := Lib.hid hv1
    clear hb hv1
    by_cases hlt : i < n
    · obtain ⟨q, hq⟩ : ∃ q, l[i]? = some q := ⟨_, List.getElem?_eq_getElem (by rw [HN.out]; exact hlt)⟩
      obtain ⟨b, off, rfl, hrg⟩ := HA.out i q hq
      have HRG := Lib.hid (range_below hrg HB.out)
      have hix := index_set b off n c i hlt
      obtain ⟨AR, har⟩ := setR q
      have HAR := Lib.hid har
      have HQ := Lib.hid hq
      have HLT := Lib.hid hlt
      have iI : (i : Int) < (n : Int) := by omega
      have i0 : (0 : Int) ≤ (i : Int) := by omega
      clear hlt hrg hq hi
      go_upto_region 4 with (first
        | (with_reducible refine ld_set (op := ⟨some 14, _, _, _, _, _⟩) rfl _ rfl b (off + i * 37) rfl q _ HAR.out.eq HRG.out ?_)
        | (with_reducible refine wpList_store_row (o := ⟨none, .store _ (.tmp 4) _, _, _, _, _⟩) rfl 38 _ _ rfl wr.heap.size AR rfl rfl 38 ZS (heap_alloc_new wr _) HAR.out.sz (HZ.out.same HAR.out) HAR.out.one ?_))
      generalize hWs : World.setRow _ wr.heap.size _ = wk
      have hst := fresh15 wr ZS AR 38 wk hWs.symm
      have HRk := Lib.hid hst.1
      have HBk := Lib.hid (bt15 HB.out hst.2)
      obtain ⟨d0, d1, d2, d3⟩ := set_atR hst.1 har
      have HXk := Lib.hid (show w.heap.size ≤ wr.heap.size from HB.out.size)
      clear hWs hst hix har HRG
      generalize wr.heap.size = X at *
      have hqm := List.mem_of_getElem? HQ.out
      have HCQ := Lib.hid (fun W => HCK.out q hqm AR HAR.out W)
      clear hqm
      have HRX := Lib.hid (show wk.rangeAt X 0 (setRow q) by have h := HRk.out; rw [← HAR.out.eq] at h; exact range_of_row h)
      have b0 := fun p : BelowBy wk => by_cell d0 p
      clear d0 d1 d2 d3
      cases hok : okS q with
      | false =>
        have HE := Lib.hid (HV.out.v.bad HQ.out (fun h => by rw [hok] at h; cases h))
        have hck : checkS q = 4 := by unfold checkS; rw [hok]; rfl
        rw [hck] at HCQ
        clear hok hck
        try simp only [Act.put]
        refine wp_region_below (by kernel_rfl) (by kernel_rfl) ?_
        repeat (first
          | (with_reducible refine quiet_ld_set (o := ⟨some 15, _, _, _, _, _⟩) (by kernel_rfl) _ rfl X 0 rfl q _ HAR.out.eq HRX.out ?_
             simp only [Act.put, List.setIfInBounds_toArray, List.set_cons_zero, List.set_cons_succ])
          | (go_big_quiet_step ((go_at_call 24; exact calls_below (HCQ.out _)))))
        refine wpQuiet_nil ?_
        intro _ hw'
        obtain ⟨pp, hw''⟩ := hw'
        subst hw''
        have HB2 := Lib.hid (bt15 HBk.out pp.bel)
        generalize pp.now = w2 at *
        clear pp b0
        go_wp2_with fail
        go_ret
        exact ⟨by rw [HE.out]; rfl, HB2.out⟩
      | true =>
        have HOK := Lib.hid hok
        have hck : checkS q = 0 := by unfold checkS; rw [hok]; rfl
        rw [hck] at HCQ
        clear hok hck
        by_cases hi0 : i = 0
        · have HNX := Lib.hid (HV.out.next HQ.out HOK.out (by rw [HV.out.no hi0]; exact lo_no15 (okS_nm HOK.out).1))
          have hdz : decide (0 < i) = false := by rw [hi0]; rfl
          clear hi0
          try simp only [Act.put]
          refine wp_region_below (by kernel_rfl) (by kernel_rfl) ?_
          repeat (first
            | (with_reducible refine quiet_ld_set (o := ⟨some 15, _, _, _, _, _⟩) (by kernel_rfl) _ rfl X 0 rfl q _ HAR.out.eq HRX.out ?_
               simp only [Act.put, List.setIfInBounds_toArray, List.set_cons_zero, List.set_cons_succ])
            | (go_big_quiet_step ((go_at_call 24; exact calls_below (HCQ.out _)))))
          refine wpQuiet_nil ?_
          intro _ hw'
          obtain ⟨pp, hw''⟩ := hw'
          subst hw''
          have HB2 := Lib.hid (bt15 HBk.out pp.bel)
          generalize pp.now = w2 at *
          clear pp b0
          go_wp2_with fail
          go_roundw
          case rel => exact ⟨i + 1, q.nm, by have := HLT.out; omega, by go_num, HNX.out, HB2.out⟩
          case measure => simp [intOf]; have := HLT.out; omega
        · obtain ⟨q', hq', hqn⟩ := HV.out.at_ (by omega)
          have hdz : decide (0 < i) = true := by rw [decide_eq_true_iff]; omega
          obtain ⟨b', off', hbe, hrg'⟩ := HA.out (i - 1) q' hq'
          injection hbe with hbe
          injection hbe with hb1 hb2
          subst hb1 hb2
          obtain ⟨e0, _, _, _⟩ := set_range (range_below hrg' HBk.out)
          rw [hqn] at e0
          have g0 := fun p : BelowBy wk => by_cell e0 p
          have hlt' : i - 1 < n := by have := HLT.out; omega
          have hix := index_set b off n c (i - 1) hlt'
          rw [show ((i - 1 : Nat) : Int) = (i : Int) - 1 by omega] at hix
          have hw1 : IntKind.i64.wrap ((i : Int) - 1) = (i : Int) - 1 := IntWalk.i64_in _ (by omega)
          generalize off + (i - 1) * 37 = po at *
          clear hq' hqn hrg' hlt' e0 hi0
          obtain ⟨s1, s2, s3⟩ | ⟨s1, s2, s3⟩ | ⟨s1, s2, s3⟩ := str_three ah q.nm
          · have HNX := Lib.hid (HV.out.next HQ.out HOK.out s1)
            have s5 : Op.bytesLess ah.toList q.nm.toList = true := s1
            clear s1
            try simp only [Act.put]
            refine wp_region_below (by kernel_rfl) (by kernel_rfl) ?_
            repeat (first
              | (with_reducible refine quiet_ld_set (o := ⟨some 15, _, _, _, _, _⟩) (by kernel_rfl) _ rfl X 0 rfl q _ HAR.out.eq HRX.out ?_
                 simp only [Act.put, List.setIfInBounds_toArray, List.set_cons_zero, List.set_cons_succ])
              | (go_big_quiet_step ((go_at_call 24; exact calls_below (HCQ.out _)))))
            refine wpQuiet_nil ?_
            intro _ hw'
            obtain ⟨pp, hw''⟩ := hw'
            subst hw''
            have HB2 := Lib.hid (bt15 HBk.out pp.bel)
            generalize pp.now = w2 at *
            clear pp b0
            go_wp2_with fail
            go_roundw
            case rel => exact ⟨i + 1, q.nm, by have := HLT.out; omega, by go_num, HNX.out, HB2.out⟩
            case measure => simp [intOf]; have := HLT.out; omega
          · have HE := Lib.hid (HV.out.v.bad HQ.out (fun _ => s1))
            have s5 : Op.bytesLess ah.toList q.nm.toList = false := s1
            clear s1
            try simp only [Act.put]
            refine wp_region_below (by kernel_rfl) (by kernel_rfl) ?_
            repeat (first
              | (with_reducible refine quiet_ld_set (o := ⟨some 15, _, _, _, _, _⟩) (by kernel_rfl) _ rfl X 0 rfl q _ HAR.out.eq HRX.out ?_
                 simp only [Act.put, List.setIfInBounds_toArray, List.set_cons_zero, List.set_cons_succ])
              | (go_big_quiet_step ((go_at_call 24; exact calls_below (HCQ.out _)))))
            refine wpQuiet_nil ?_
            intro _ hw'
            obtain ⟨pp, hw''⟩ := hw'
            subst hw''
            have HB2 := Lib.hid (bt15 HBk.out pp.bel)
            generalize pp.now = w2 at *
            clear pp b0
            go_wp2_with fail
            go_ret
            exact ⟨by rw [HE.out]; rfl, HB2.out⟩
          · have HE := Lib.hid (HV.out.v.bad HQ.out (fun _ => s1))
            have s5 : Op.bytesLess ah.toList q.nm.toList = false := s1
            clear s1
            try simp only [Act.put]
            refine wp_region_below (by kernel_rfl) (by kernel_rfl) ?_
            repeat (first
              | (with_reducible refine quiet_ld_set (o := ⟨some 15, _, _, _, _, _⟩) (by kernel_rfl) _ rfl X 0 rfl q _ HAR.out.eq HRX.out ?_
                 simp only [Act.put, List.setIfInBounds_toArray, List.set_cons_zero, List.set_cons_succ])
              | (go_big_quiet_step ((go_at_call 24; exact calls_below (HCQ.out _)))))
            refine wpQuiet_nil ?_
            intro _ hw'
            obtain ⟨pp, hw''⟩ := hw'
            subst hw''
            have HB2 := Lib.hid (bt15 HBk.out pp.bel)
            generalize pp.now = w2 at *
            clear pp b0
            go_wp2_with fail
            go_ret
            exact ⟨by rw [HE.out]; rfl, HB2.out⟩
    · obtain rfl : n = i := by omega
      have HV1 := Lib.hid (HV.out.v.all (by rw [HN.out]; exact Nat.le_refl _))
      have HOR := Lib.hid (HIX.out HV1.out.2)
      clear hi hlt HV HIX
      go_wp2_with fail
      go_loopw [6, 7, 36] (fun _ _ v36 wr => ∃ i : Nat, i ≤ n ∧ v36 = .int .i64 (i : Int) ∧ V2 l i ∧ Below w.heap.size w wr) (fun _ _ v _ => n - (intOf v).toNat)
      case atStart => exact ⟨0, Nat.zero_le _, rfl, fun s hs => by simp at hs, HB.out⟩
      case round =>
        clear HB
        obtain ⟨i, hi, rfl, hv2, hb⟩ := hrel
        have HB := Lib.hid hb
        have HV := Lib.hid hv2
        clear hb hv2
        by_cases hlt : i < n
        · obtain ⟨q, hq⟩ : ∃ q, l[i]? = some q := ⟨_, List.getElem?_eq_getElem (by rw [HN.out]; exact hlt)⟩
          obtain ⟨b, off, rfl, hrg⟩ := HA.out i q hq
          have HRG := Lib.hid (range_below hrg HB.out)
          have hix := index_set b off n c i hlt
          obtain ⟨AR, har⟩ := setR q
          have HAR := Lib.hid har
          have HQ := Lib.hid hq
          have HLT := Lib.hid hlt
          have iI : (i : Int) < (n : Int) := by omega
          have i0 : (0 : Int) ≤ (i : Int) := by omega
          clear hlt hrg hq hi
          go_upto_region 10 with (first
            | (with_reducible refine ld_set (op := ⟨some 39, _, _, _, _, _⟩) rfl _ rfl b (off + i * 37) rfl q _ HAR.out.eq HRG.out ?_)
            | (with_reducible refine wpList_store_row (o := ⟨none, .store _ (.tmp 6) _, _, _, _, _⟩) rfl 38 _ _ rfl wr.heap.size AR rfl rfl 38 ZS (heap_alloc_new wr _) HAR.out.sz (HZ.out.same HAR.out) HAR.out.one ?_))
          generalize hWs : World.setRow _ wr.heap.size _ = wk
          have hst := fresh15 wr ZS AR 38 wk hWs.symm
          have HRk := Lib.hid hst.1
          have HBk := Lib.hid (bt15 HB.out hst.2)
          obtain ⟨d0, d1, d2, d3⟩ := set_atR hst.1 har
          have HXk := Lib.hid (show w.heap.size ≤ wr.heap.size from HB.out.size)
          clear hWs hst hix har HRG
          generalize wr.heap.size = X at *
          have HOK := Lib.hid (HV1.out.1 q (List.mem_of_getElem? HQ.out))
          have HIQ := Lib.hid (HOR.out wk HBk.out q.fr)
          have HO := Lib.hid (show orgOk l q = (decide (q.fr = noS) || (match atN l q.fr with | some t => t.sn != q.sn | none => false)) from rfl)
          have HRF := Lib.hid (rank_facts HV1.out.2 q.fr)
          have hsn := str_no q.fr
          go_wp2_with fail
          refine HIQ.out.mono ?_
          rintro e w2 ⟨rfl, hb2⟩
          have HB2 := Lib.hid (bt15 HBk.out hb2)
          have e1 := cell_block15 d1 hb2
          have e2 := cell_block15 d2 hb2
          clear hb2 d0 d1 d2 d3 HIQ
          by_cases hfr : q.fr = noS
          · have hsf : q.sn = false := by rcases h : q.sn with _ | _; rfl; exact absurd hfr ((ok_parts HOK.out).2.1 h)
            have hok : orgOk l q = true := by rw [HO.out, decide_eq_true hfr]; rfl
            rw [decide_eq_true hfr] at hsn
            rw [hsf] at e2
            generalize idxD l q.fr = ix at *
            clear hsf hfr HO HRF
            have HNX := Lib.hid (HV.out.next HQ.out hok)
            clear hok
            go_wp2_with fail
            go_roundw
            case rel => exact ⟨i + 1, by have := HLT.out; omega, by go_num, HNX.out, HB2.out⟩
            case measure => simp [intOf]; have := HLT.out; omega
          · rw [decide_eq_false hfr] at hsn HO
            cases hh : hasK (nms l) q.fr with
            | false =>
              have hok : orgOk l q = false := by rw [HO.out, HRF.out.2.1, hh]; rfl
              rw [show idxD l q.fr = -1 by unfold idxD; rw [hh]; rfl]
              clear hh HO HRF hfr
              cases hsf : q.sn with
              | false =>
                rw [hsf] at e2
                clear hsf
                have HE := Lib.hid (v2_bad (List.mem_of_getElem? HQ.out) hok)
                clear hok
                go_wp2_with fail
                go_ret
                exact ⟨by rw [HE.out]; rfl, HB2.out⟩
              | true =>
                rw [hsf] at e2
                clear hsf
                have HE := Lib.hid (v2_bad (List.mem_of_getElem? HQ.out) hok)
                clear hok
                go_wp2_with fail
                go_ret
                exact ⟨by rw [HE.out]; rfl, HB2.out⟩
            | true =>
              have hrl := (HRF.out.2.2.2.1 hh).2
              obtain ⟨t, ht⟩ : ∃ t, l[rankK (nms l) q.fr]? = some t := ⟨_, List.getElem?_eq_getElem hrl⟩
              have HO2 := Lib.hid (show orgOk l q = (t.sn != q.sn) by rw [HO.out, HRF.out.2.1, hh, if_pos rfl, ht]; rfl)
              rw [show idxD l q.fr = ((rankK (nms l) q.fr : Nat) : Int) by unfold idxD; rw [hh, if_pos rfl]]
              obtain ⟨b', off', hbe, hrg'⟩ := HA.out _ t ht
              injection hbe with hbe
              injection hbe with hb1 hb2
              subst hb1 hb2
              obtain ⟨_, _, g2, _⟩ := set_range (range_below hrg' HB2.out)
              rw [HN.out] at hrl
              generalize rankK (nms l) q.fr = k at *
              have hix := index_set b off n c k hrl
              have kI : (k : Int) < (n : Int) := by omega
              have k0 : (0 : Int) ≤ (k : Int) := by omega
              clear hh HO HRF ht hrg' hrl hfr
              cases hts : t.sn with
              | false =>
                cases hsf : q.sn with
                | false =>
                  have hok : orgOk l q = false := by rw [HO2.out, hts, hsf]; rfl
                  rw [hsf] at e2
                  rw [hts] at g2
                  clear hsf hts HO2
                  have HE := Lib.hid (v2_bad (List.mem_of_getElem? HQ.out) hok)
                  clear hok
                  go_wp2_with fail
                  go_ret
                  exact ⟨by rw [HE.out]; rfl, HB2.out⟩
                | true =>
                  have hok : orgOk l q = true := by rw [HO2.out, hts, hsf]; rfl
                  rw [hsf] at e2
                  rw [hts] at g2
                  clear hsf hts HO2
                  have HNX := Lib.hid (HV.out.next HQ.out hok)
                  clear hok
                  go_wp2_with fail
                  go_roundw
                  case rel => exact ⟨i + 1, by have := HLT.out; omega, by go_num, HNX.out, HB2.out⟩
                  case measure => simp [intOf]; have := HLT.out; omega
              | true =>
                cases hsf : q.sn with
                | false =>
                  have hok : orgOk l q = true := by rw [HO2.out, hts, hsf]; rfl
                  rw [hsf] at e2
                  rw [hts] at g2
                  clear hsf hts HO2
                  have HNX := Lib.hid (HV.out.next HQ.out hok)
                  clear hok
                  go_wp2_with fail
                  go_roundw
                  case rel => exact ⟨i + 1, by have := HLT.out; omega, by go_num, HNX.out, HB2.out⟩
                  case measure => simp [intOf]; have := HLT.out; omega
                | true =>
                  have hok : orgOk l q = false := by rw [HO2.out, hts, hsf]; rfl
                  rw [hsf] at e2
                  rw [hts] at g2
                  clear hsf hts HO2
                  have HE := Lib.hid (v2_bad (List.mem_of_getElem? HQ.out) hok)
                  clear hok
                  go_wp2_with fail
                  go_ret
                  exact ⟨by rw [HE.out]; rfl, HB2.out⟩
        · obtain rfl : n = i := by omega
          have HE := Lib.hid (v2_ok HV.out (by rw [HN.out]; exact Nat.le_refl _) HV1.out)
          clear hi hlt
          go_wp2_with fail
          go_ret
          exact ⟨by rw [HE.out]; rfl, HB.out⟩
set_option maxRecDepth 100000 in
set_option maxHeartbeats 3200000 in
theorem rfind15 (v : Value) (l : List SetV) (n : ByteArray) (w : World) (h : LS w v l) (hs : l.length ≤ 1000) (ho : ∀ s ∈ l, SetOk s) :
    Calls Try.prog 15 #[v, .string n] w fun e w' => FindPost w (findD l n) e w' := by
  have HV := Lib.hid (fun W (b : Below w.heap.size w W) => rvalid15 v l W (h.below b) hs ho)
  have hnw := new15 w (.cells (setRow zeroSet).toArray 38)
  have HB := Lib.hid (ba15 w (.cells (setRow zeroSet).toArray 38))
  have hbn := build_set0
  obtain ⟨ZS, hzs⟩ := setR zeroSet
  have hz := zero_set
  rw [hzs.eq] at hz
  have HZ := Lib.hid hzs
  clear hzs
  rw [HZ.out.eq] at hbn hnw HB
  have HNW := Lib.hid hnw
  have HLS := Lib.hid h
  clear hnw h
  cases hv : validB l with
  | false =>
    have HE := Lib.hid (show findD l n = (zeroSet, 4) by unfold findD; rw [hv]; rfl)
    have hve : validE l = 4 := by unfold validE; rw [hv]; rfl
    rw [hve] at HV
    clear hv hve
    go_enter Try.func15, Try.ntmps15
    go_wp2_with fail
    refine (HV.out _ HB.out).mono ?_
    rintro e w2 ⟨rfl, hb2⟩
    have HN2 := Lib.hid ((hb2.block _ (lt_of_block HNW.out)).trans HNW.out)
    have HB2 := Lib.hid (bt15 HB.out hb2)
    clear hb2
    go_wp2_with (first
      | (with_reducible refine wpList_store_row (o := ⟨none, .store _ (.tmp 4) _, _, _, _, _⟩) rfl 38 _ _ rfl w.heap.size ZS rfl rfl 38 ZS HN2.out HZ.out.sz (HZ.out.same HZ.out) HZ.out.one ?_))
    refine bodyPost_ret (v := .tuple #[.agg ZS, .int .i64 4]) (results_cell_two Try.results15 _ _ w.heap.size 38 ZS (0, 0) _ rfl (setRow_heap _ w.heap.size _ ZS _ _ HN2.out) Try.underlying38 rfl HZ.out.sz _ (by simp)) rfl ?_
    exact ⟨by rw [HE.out, HZ.out.eq], ybelow_row HB2.out (Nat.le_refl _) _⟩
  | true =>
    have HVL := Lib.hid (valid_iff.1 hv)
    have hve : validE l = 0 := by unfold validE; rw [hv]; rfl
    rw [hve] at HV
    have HPL := Lib.hid (fun W (b : Below w.heap.size w W) => ridx15 v l n W (HLS.out.below b) hs HVL.out.ris)
    have HF0 := Lib.hid (show findD l n = (match atN l n with | some s => (s, 0) | none => (zeroSet, 8)) by unfold findD; rw [hv, if_pos rfl]; rfl)
    have HRF := Lib.hid (rank_facts HVL.out.ris n)
    clear hv hve
    go_enter Try.func15, Try.ntmps15
    go_wp2_with fail
    refine (HV.out _ HB.out).mono ?_
    rintro e w2 ⟨rfl, hb2⟩
    have HB2 := Lib.hid (bt15 HB.out hb2)
    have HN2 := Lib.hid ((hb2.block _ (lt_of_block HNW.out)).trans HNW.out)
    have HP2 := Lib.hid (HPL.out w2 HB2.out)
    unfold idxD at HP2
    clear hb2 HPL HV
    cases hh : hasK (nms l) n with
    | false =>
      have HE := Lib.hid (show findD l n = (zeroSet, 8) by rw [HF0.out, HRF.out.2.1, hh]; rfl)
      rw [hh] at HP2
      clear hh HF0
      rw [if_neg (by decide)] at HP2
      go_wp2_with fail
      refine HP2.out.mono ?_
      rintro e w3 ⟨rfl, hb3⟩
      have HB3 := Lib.hid (bt15 HB2.out hb3)
      have HN3 := Lib.hid ((hb3.block _ (lt_of_block HN2.out)).trans HN2.out)
      clear hb3
      go_wp2_with (first
        | (with_reducible refine wpList_store_row (o := ⟨none, .store _ (.tmp 4) _, _, _, _, _⟩) rfl 38 _ _ rfl w.heap.size ZS rfl rfl 38 ZS HN3.out HZ.out.sz (HZ.out.same HZ.out) HZ.out.one ?_))
      refine bodyPost_ret (v := .tuple #[.agg ZS, .int .i64 8]) (results_cell_two Try.results15 _ _ w.heap.size 38 ZS (0, 0) _ rfl (setRow_heap _ w.heap.size _ ZS _ _ HN3.out) Try.underlying38 rfl HZ.out.sz _ (by simp)) rfl ?_
      exact ⟨by rw [HE.out, HZ.out.eq], ybelow_row HB3.out (Nat.le_refl _) _⟩
    | true =>
      have hlt := (HRF.out.2.2.2.1 hh).2
      obtain ⟨t, ht⟩ : ∃ t, l[rankK (nms l) n]? = some t := ⟨_, List.getElem?_eq_getElem hlt⟩
      have HE := Lib.hid (show findD l n = (t, 0) by rw [HF0.out, HRF.out.2.1, hh, if_pos rfl, ht])
      rw [hh] at HP2
      rw [if_pos rfl] at HP2
      obtain ⟨a, c, rfl, hc, hat⟩ := HLS.out
      obtain ⟨b, off, rfl, hrg⟩ := hat _ t ht
      obtain ⟨AR, har⟩ := setR t
      have HAR := Lib.hid har
      generalize rankK (nms l) n = r at *
      have hix := index_set b off l.length c r hlt
      have rI : (r : Int) < (l.length : Int) := by omega
      have r0 : (0 : Int) ≤ (r : Int) := by omega
      have HRG := Lib.hid hrg
      clear hh HF0 ht hrg har hat hc hlt HRF HLS
      obtain ⟨ln, hln⟩ : ∃ z, l.length = z := ⟨_, rfl⟩
      rw [hln] at HP2 hix rI ⊢
      clear hln
      go_wp2_with fail
      refine HP2.out.mono ?_
      rintro e w3 ⟨rfl, hb3⟩
      have HB3 := Lib.hid (bt15 HB2.out hb3)
      have HN3 := Lib.hid ((hb3.block _ (lt_of_block HN2.out)).trans HN2.out)
      have HR3 := Lib.hid (range_below HRG.out HB3.out)
      clear hb3
      go_wp2_with (first
        | (with_reducible refine ld_set (op := ⟨some 23, _, _, _, _, _⟩) rfl _ rfl b (off + r * 37) rfl t _ HAR.out.eq HR3.out ?_)
        | (with_reducible refine wpList_store_row (o := ⟨none, .store _ (.tmp 4) _, _, _, _, _⟩) rfl 38 _ _ rfl w.heap.size AR rfl rfl 38 ZS HN3.out HAR.out.sz (HZ.out.same HAR.out) HAR.out.one ?_))
      refine bodyPost_ret (v := .tuple #[.agg AR, .int .i64 0]) (results_cell_two Try.results15 _ _ w.heap.size 38 AR (0, 0) _ rfl (setRow_heap _ w.heap.size _ AR _ _ HN3.out) Try.underlying38 rfl HAR.out.sz _ (by simp)) rfl ?_
      exact ⟨by rw [HE.out, HAR.out.eq], ybelow_row HB3.out (Nat.le_refl _) _⟩
end Go.Proofs.Ytkafabcklohlmaa
