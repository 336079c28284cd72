/-
  Datasets: the program's nameMayBe, Check, originMayBe, Valid. (Written by tools/XId.make.py.)
-/
import Derived.Test.YtkafabcklohlmaaIc
import Derived.BigQuiet
namespace Go.Proofs.Ytkafabcklohlmaa
set_option maxRecDepth 4000
set_option linter.unusedVariables false
open Go.ChangeShapes Go.WideShapes Go.ChangeAt Go.RowKit

theorem str_no (s : ByteArray) : s.toList.isEmpty = decide (s = noS) := by
  by_cases h : s = noS
  · subst h
    rw [decide_eq_true rfl, Lib.toList_data]
    rfl
  · rw [decide_eq_false h, ← Bool.not_eq_true, List.isEmpty_iff]
    intro e
    refine h (str_inj (e.trans ?_))
    rw [Lib.toList_data]
    rfl
set_option maxRecDepth 100000 in
set_option maxHeartbeats 1600000 in
theorem pname15 (s : ByteArray) (hs : s.size ≤ 140737488351232) (w : World) : Calls Try.prog 49 #[.string s] w fun e w' => e = .returned (.bool (mayN s)) ∧ w' = w := by
  have zI : (s.size : Int) ≤ 140737488351232 := by omega
  by_cases h0 : 1 ≤ s.size
  · have aI : (0 : Int) < (s.size : Int) := by omega
    have bI : (1 : Int) ≤ (s.size : Int) := by omega
    by_cases h1 : s.size ≤ 32
    · have cI : (s.size : Int) ≤ 32 := by omega
      have HM := Lib.hid (show mayN s = true from mayN_iff.2 ⟨h0, h1⟩)
      clear h0 h1 hs
      go_enter Try.func49, Try.ntmps49
      go_wp2_with fail
      go_ret
      exact ⟨by rw [HM.out]; rfl, rfl⟩
    · have cI : ¬ ((s.size : Int) ≤ 32) := by omega
      have HM := Lib.hid (show mayN s = false by rw [← Bool.not_eq_true, mayN_iff]; omega)
      clear h0 h1 hs
      go_enter Try.func49, Try.ntmps49
      go_wp2_with fail
      go_ret
      exact ⟨by rw [HM.out]; rfl, rfl⟩
  · have aI : ¬ ((0 : Int) < (s.size : Int)) := by omega
    have bI : ¬ ((1 : Int) ≤ (s.size : Int)) := by omega
    have HM := Lib.hid (show mayN s = false by rw [← Bool.not_eq_true, mayN_iff]; omega)
    clear h0 hs
    go_enter Try.func49, Try.ntmps49
    go_wp2_with fail
    go_ret
    exact ⟨by rw [HM.out]; rfl, rfl⟩
set_option maxRecDepth 100000 in
set_option maxHeartbeats 1600000 in
theorem rname15 (s : ByteArray) (hs : s.size ≤ 140737488351232) (w : World) : Calls Try.prog 51 #[.string s] w fun e w' => e = .returned (.bool (mayN s)) ∧ w' = w := by
  have zI : (s.size : Int) ≤ 140737488351232 := by omega
  by_cases h0 : 1 ≤ s.size
  · have aI : (0 : Int) < (s.size : Int) := by omega
    have bI : (1 : Int) ≤ (s.size : Int) := by omega
    by_cases h1 : s.size ≤ 32
    · have cI : (s.size : Int) ≤ 32 := by omega
      have HM := Lib.hid (show mayN s = true from mayN_iff.2 ⟨h0, h1⟩)
      clear h0 h1 hs
      go_enter Try.func51, Try.ntmps51
      go_wp2_with fail
      go_ret
      exact ⟨by rw [HM.out]; rfl, rfl⟩
    · have cI : ¬ ((s.size : Int) ≤ 32) := by omega
      have HM := Lib.hid (show mayN s = false by rw [← Bool.not_eq_true, mayN_iff]; omega)
      clear h0 h1 hs
      go_enter Try.func51, Try.ntmps51
      go_wp2_with fail
      go_ret
      exact ⟨by rw [HM.out]; rfl, rfl⟩
  · have aI : ¬ ((0 : Int) < (s.size : Int)) := by omega
    have bI : ¬ ((1 : Int) ≤ (s.size : Int)) := by omega
    have HM := Lib.hid (show mayN s = false by rw [← Bool.not_eq_true, mayN_iff]; omega)
    clear h0 hs
    go_enter Try.func51, Try.ntmps51
    go_wp2_with fail
    go_ret
    exact ⟨by rw [HM.out]; rfl, rfl⟩
theorem ok_split (s : SetV) : okS s = (mayN s.nm && (decide (s.fr.size ≤ 32) && (!(s.sn && decide (s.fr = noS)) && decide (checkE s.rt 4096 = 0)))) := by
  have : decide (checkE s.rt 4096 = 0) = mayB s.rt 4096 := by unfold checkE; cases mayB s.rt 4096 <;> rfl
  rw [this]; rfl
theorem ld_ptr15 {ops : Array Oper} {rest : List Oper} {op : Oper} {a : Act} {w : World} {Q : Exit → Act → World → Prop} (hw : Region.wanted op (yielded ops a.tmps) = true) (x : Operand) (ho : op.op = .load 36 x)
    (b o : Nat) (hx : a.eval x = .pointer (some ⟨b, o, none⟩)) (q : PtrV) (AR : Array Value) (hA : (ptrRow q).toArray = AR) (hc : w.rangeAt b o (ptrRow q))
    (h : wpList Try.prog ops Q rest (a.put op.dst (.agg AR)) w) : wpList Try.prog ops Q (op :: rest) a w := by
  subst hA
  exact wpList_step fun _ hK => by rw [if_pos hw]; exact wp_load_mid 36 x ho b o hx (ptrRow q) _ hc Try.underlying36 rfl (size_ptr q) (hK _ _ h)
theorem chk_fin (s : SetV) (h : okS s = (true && (true && (!false && decide (checkE s.rt 4096 = 0))))) : checkE s.rt 4096 = checkS s := by
  unfold checkS
  rw [h]
  unfold checkE
  cases mayB s.rt 4096 <;> rfl
set_option maxRecDepth 100000 in
set_option maxHeartbeats 1600000 in
theorem pcheck15 (s : SetV) (ho : SetOk s) (w : World) : Calls Try.prog 23 #[.agg (setRow s).toArray] w fun e w' => e = .returned (.int .i64 (checkS s)) ∧ Below w.heap.size w w' := by
  obtain ⟨AR, hr⟩ := setR s
  rw [hr.eq]
  have hn := new15 w (.cells AR 38)
  obtain ⟨c0, c1, c2, c3⟩ := set_atR hn hr
  have HB := Lib.hid (ba15 w (.cells AR 38))
  have HRG := Lib.hid c3
  have HNM := Lib.hid (fun W => pname15 s.nm ho.ns W)
  have HCK := Lib.hid (fun W => pcheck_any s.rt 4096 W)
  have HOK := Lib.hid (ok_split s)
  have zI : (s.fr.size : Int) ≤ 140737488351232 := by have := ho.fs; omega
  have hsn := str_no s.fr
  clear hr hn c3 ho
  obtain ⟨nm, fr, sn, rt⟩ := s
  dsimp only at *
  obtain ⟨PR, hPR⟩ : ∃ z, (ptrRow rt).toArray = z := ⟨_, rfl⟩
  rw [hPR] at HCK
  have HPR := Lib.hid hPR
  clear hPR
  cases hm : mayN nm with
  | false =>
    rw [hm] at HNM HOK
    clear hm
    go_enter Try.func23, Try.ntmps23
    go_wp2_with fail
    refine (HNM.out _).mono ?_
    rintro e w1 ⟨rfl, hw⟩
    subst hw
    go_wp2_with fail
    go_ret
    exact ⟨(by unfold checkS; rw [HOK.out]; rfl), HB.out⟩
  | true =>
    rw [hm] at HNM HOK
    clear hm
    by_cases h32 : fr.size ≤ 32
    · have hI : ¬ ((32 : Int) < (fr.size : Int)) := by omega
      rw [decide_eq_true h32] at HOK
      clear h32
      cases sn with
      | false =>
        have hs0 : (false && decide (fr = noS)) = false := rfl
        rw [hs0] at HOK
        clear hs0 hsn
        go_enter Try.func23, Try.ntmps23
        go_wp2_with fail
        refine (HNM.out _).mono ?_
        rintro e w1 ⟨rfl, hw⟩
        subst hw
        go_wp2_with (first
          | (with_reducible refine ld_ptr15 (op := ⟨some 23, _, _, _, _, _⟩) (by kernel_rfl) _ rfl w.heap.size 3 rfl rt _ HPR.out HRG.out ?_))
        refine (HCK.out _).mono ?_
        rintro e w2 ⟨rfl, hb2⟩
        have HB2 := Lib.hid (bt15 HB.out hb2)
        clear hb2
        go_wp2_with fail
        go_ret
        exact ⟨by rw [← chk_fin _ HOK.out]; rfl, HB2.out⟩
      | true =>
        by_cases hfr : fr = noS
        · rw [decide_eq_true hfr] at HOK hsn
          clear hfr
          go_enter Try.func23, Try.ntmps23
          go_wp2_with fail
          refine (HNM.out _).mono ?_
          rintro e w1 ⟨rfl, hw⟩
          subst hw
          go_wp2_with fail
          go_ret
          exact ⟨(by unfold checkS; rw [HOK.out]; rfl), HB.out⟩
        · rw [decide_eq_false hfr] at HOK hsn
          clear hfr
          go_enter Try.func23, Try.ntmps23
          go_wp2_with fail
          refine (HNM.out _).mono ?_
          rintro e w1 ⟨rfl, hw⟩
          subst hw
          go_wp2_with (first
            | (with_reducible refine ld_ptr15 (op := ⟨some 23, _, _, _, _, _⟩) (by kernel_rfl) _ rfl w.heap.size 3 rfl rt _ HPR.out HRG.out ?_))
          refine (HCK.out _).mono ?_
          rintro e w2 ⟨rfl, hb2⟩
          have HB2 := Lib.hid (bt15 HB.out hb2)
          clear hb2
          go_wp2_with fail
          go_ret
          exact ⟨by rw [← chk_fin _ HOK.out]; rfl, HB2.out⟩
    · have hI : (32 : Int) < (fr.size : Int) := by omega
      rw [decide_eq_false h32] at HOK
      clear h32
      go_enter Try.func23, Try.ntmps23
      go_wp2_with fail
      refine (HNM.out _).mono ?_
      rintro e w1 ⟨rfl, hw⟩
      subst hw
      go_wp2_with fail
      go_ret
      exact ⟨(by unfold checkS; rw [HOK.out]; rfl), HB.out⟩
/-! ### whether some may be all there are -/
theorem take_next15 {l : List SetV} {i : Nat} {q : SetV} (h : l[i]? = some q) : l.take (i + 1) = l.take i ++ [q] := by rw [List.take_add_one, h]; rfl
structure V1 (l : List SetV) (i : Nat) (a : ByteArray) : Prop where
  ok : ∀ s ∈ l.take i, okS s = true
  ris : Rising (nms (l.take i))
  hi : ∀ s ∈ l.take i, s.nm = a ∨ lo s.nm a = true
  at_ : a = noS ∨ a ∈ nms (l.take i)
theorem V1.nil (l : List SetV) : V1 l 0 noS := ⟨by simp, by simp [nms, Rising], by simp, .inl rfl⟩
theorem V1.next {l : List SetV} {i : Nat} {a : ByteArray} (h : V1 l i a) {q : SetV} (hq : l[i]? = some q) (ho : okS q = true) (hl : lo a q.nm = true) : V1 l (i + 1) q.nm := by
  have hlt : ∀ s ∈ l.take i, lo s.nm q.nm = true := fun s hs => by
    rcases h.hi s hs with e | e
    · rw [e]; exact hl
    · exact lo_trans e hl
  refine ⟨fun s hs => ?_, ?_, fun s hs => ?_, ?_⟩
  · rw [take_next15 hq, List.mem_append, List.mem_singleton] at hs
    rcases hs with hs | rfl
    · exact h.ok s hs
    · exact ho
  · rw [take_next15 hq]
    unfold nms Rising
    rw [List.map_append, List.pairwise_append]
    refine ⟨h.ris, by simp, fun x hx y hy => ?_⟩
    obtain ⟨s, hs, rfl⟩ := List.mem_map.1 hx
    obtain rfl : y = q.nm := by simpa using hy
    exact hlt s hs
  · rw [take_next15 hq, List.mem_append, List.mem_singleton] at hs
    rcases hs with hs | rfl
    · exact .inr (hlt s hs)
    · exact .inl rfl
  · rw [take_next15 hq]
    exact .inr (by simp [nms])
theorem V1.bad {l : List SetV} {i : Nat} {a : ByteArray} (h : V1 l i a) {q : SetV} (hq : l[i]? = some q) (hl : okS q = true → lo a q.nm = false) : validE l = 4 := by
  unfold validE
  rw [if_neg]
  intro hv
  have hv := valid_iff.1 hv
  have hm := List.mem_of_getElem? hq
  have ho := hv.ok q hm
  have h1 := hl ho
  have hp := (okS_nm ho).1
  rcases h.at_ with e | e
  · rcases lo_tri a q.nm with c | c | c
    · rw [h1] at c; cases c
    · rw [← c, e] at hp; exact absurd hp (by decide)
    · rw [e, lo_lt, decide_eq_true_iff] at c
      have : noS.toList = [] := by rw [Lib.toList_data]; rfl
      rw [this] at c
      exact absurd c (List.not_lt_nil _)
  · obtain ⟨s, hs, rfl⟩ := mem_nms.1 e
    obtain ⟨j, hj, e2⟩ := List.getElem_of_mem hs
    rw [List.length_take] at hj
    have h3 : l[j]? = some s := by rw [List.getElem_take] at e2; rw [← e2]; exact List.getElem?_eq_getElem (by omega)
    have h4 := rising_at hv.ris (i := j) (j := i) (a := s.nm) (b := q.nm) (by omega) (by unfold nms; rw [List.getElem?_map, h3]; rfl) (by unfold nms; rw [List.getElem?_map, hq]; rfl)
    rw [h1] at h4
    cases h4
theorem V1.all {l : List SetV} {i : Nat} {a : ByteArray} (h : V1 l i a) (hi : l.length ≤ i) : (∀ s ∈ l, okS s = true) ∧ Rising (nms l) := by
  have h1 := h.ok
  have h2 := h.ris
  rw [List.take_of_length_le hi] at h1 h2
  exact ⟨h1, h2⟩
def V2 (l : List SetV) (i : Nat) : Prop := ∀ s ∈ l.take i, orgOk l s = true
theorem V2.next {l : List SetV} {i : Nat} (h : V2 l i) {q : SetV} (hq : l[i]? = some q) (ho : orgOk l q = true) : V2 l (i + 1) := fun s hs => by
  rw [take_next15 hq, List.mem_append, List.mem_singleton] at hs
  rcases hs with hs | rfl
  · exact h s hs
  · exact ho
theorem v2_bad {l : List SetV} {q : SetV} (hq : q ∈ l) (ho : orgOk l q = false) : validE l = 4 := by
  unfold validE
  rw [if_neg]
  intro hv
  unfold validB at hv
  rw [Bool.and_eq_true, List.all_eq_true] at hv
  rw [hv.2 q hq] at ho
  cases ho
theorem v2_ok {l : List SetV} {i : Nat} (h : V2 l i) (hi : l.length ≤ i) (h1 : (∀ s ∈ l, okS s = true) ∧ Rising (nms l)) : validE l = 0 := by
  unfold V2 at h
  rw [List.take_of_length_le hi] at h
  unfold validE validB
  rw [if_pos]
  rw [Bool.and_eq_true, Bool.and_eq_true, decide_eq_true_iff, List.all_eq_true, List.all_eq_true]
  exact ⟨h1, h⟩
theorem cast_neg (b c : Bool) : (b != c) = true ∨ (b != c) = false := by cases b <;> cases c <;> simp
theorem cell_block15 {w w2 : World} {p : Addr} {v : Value} (h : w.cell? p = some v) (b : Below w.heap.size w w2) : w2.cell? p = some v := (b.cell (p := p) (block_lt_of_cell h)).trans h
set_option maxRecDepth 100000 in
set_option maxHeartbeats 3200000 in
theorem porg15 (v : Value) (l : List SetV) (s : SetV) (w : World) (h : LS w v l) (hs : l.length ≤ 1000) (hr : Rising (nms l)) :
    Calls Try.prog 37 #[v, .agg (setRow s).toArray] w fun e w' => e = .returned (.bool (orgOk l s)) ∧ Below w.heap.size w w' := by
  obtain ⟨a, c, rfl, hc, hat⟩ := h
  obtain ⟨n, hn⟩ : ∃ n, l.length = n := ⟨_, rfl⟩
  have HPL := Lib.hid (fun W (b : Below w.heap.size w W) => place15 (.slice a l.length c) l s.fr W (LS.below ⟨a, c, rfl, hc, hat⟩ b) hs hr)
  obtain ⟨AR, har⟩ := setR s
  rw [har.eq]
  have hnw := new15 w (.cells AR 38)
  obtain ⟨c0, c1, c2, _⟩ := set_atR hnw har
  have HB := Lib.hid (ba15 w (.cells AR 38))
  have hsn := str_no s.fr
  have HO := Lib.hid (show orgOk l s = (decide (s.fr = noS) || (match atN l s.fr with | some t => t.sn != s.sn | none => false)) from rfl)
  have HRF := Lib.hid (rank_facts hr s.fr)
  have HA := Lib.hid hat
  have HN := Lib.hid hn
  rw [hn] at HPL ⊢
  clear hat hr har hnw hs hc hn c0
  obtain ⟨nm, fr, sn, rt⟩ := s
  dsimp only at *
  by_cases hfr : fr = noS
  · rw [decide_eq_true hfr] at hsn HO
    clear hfr
    go_enter Try.func37, Try.ntmps37
    go_wp2_with fail
    go_ret
    exact ⟨by rw [HO.out]; rfl, HB.out⟩
  · rw [decide_eq_false hfr] at hsn HO
    clear hfr
    go_enter Try.func37, Try.ntmps37
    go_wp2_with fail
    refine (HPL.out _ HB.out).mono ?_
    rintro e w2 ⟨rfl, hb2⟩
    have HB2 := Lib.hid (bt15 HB.out hb2)
    have d2 := cell_block15 c2 hb2
    clear hb2 c1 c2 hsn HB HPL
    cases hh : hasK (nms l) fr with
    | false =>
      have HO2 := Lib.hid (show orgOk l ⟨nm, fr, sn, rt⟩ = false by rw [HO.out, HRF.out.2.1, hh]; rfl)
      clear HO hh
      go_upto_region 4 with fail
      go_quiet (fail)
      go_wp2_with fail
      go_ret
      exact ⟨by rw [HO2.out]; rfl, ybelow_drewN HB2.out nq⟩
    | true =>
      have hlt := (HRF.out.2.2.2.1 hh).2
      obtain ⟨t, ht⟩ : ∃ t, l[rankK (nms l) fr]? = some t := ⟨_, List.getElem?_eq_getElem hlt⟩
      have HO2 := Lib.hid (show orgOk l ⟨nm, fr, sn, rt⟩ = (t.sn != sn) by rw [HO.out, HRF.out.2.1, hh, if_pos rfl, ht]; rfl)
      obtain ⟨b, off, rfl, hrg⟩ := HA.out _ t ht
      obtain ⟨_, _, e2, _⟩ := set_range (range_below hrg HB2.out)
      rw [HN.out] at hlt
      generalize rankK (nms l) fr = r at *
      have hix := index_set b off n c r hlt
      have rI : (r : Int) < (n : Int) := by omega
      have r0 : (0 : Int) ≤ (r : Int) := by omega
      clear HO hh ht hrg hlt HRF HA HN
      generalize t.sn = ts at *
      go_upto_region 4 with fail
      go_quiet (fail)
      go_wp2_with fail
      go_ret
      exact ⟨by rw [HO2.out]; rfl, ybelow_drewN HB2.out nq⟩
set_option maxRecDepth 100000 in
set_option maxHeartbeats 3200000 in
theorem pvalid15 (v : Value) (l : List SetV) (w : World) (h : LS w v l) (hs : l.length ≤ 1000) (ho : ∀ s ∈ l, SetOk s) :
    Calls Try.prog 17 #[v] w fun e w' => e = .returned (.int .i64 (validE l)) ∧ Below w.heap.size w w' := by
  obtain ⟨a, c, rfl, hc, hat⟩ := h
  obtain ⟨n, hn⟩ : ∃ n, l.length = n := ⟨_, rfl⟩
  have HOG := Lib.hid (fun hr W (b : Below w.heap.size w W) (q : SetV) AR (h : SetR AR q) => by have := porg15 (.slice a l.length c) l q W (LS.below ⟨a, c, rfl, hc, hat⟩ b) hs hr; rw [h.eq] at this; exact this)
  have HCK := Lib.hid (fun (q : SetV) (hq : q ∈ l) AR (h : SetR AR q) W => by have := pcheck15 q (ho q hq) W; rw [h.eq] at this; exact this)
  have HA := Lib.hid hat
  have HN := Lib.hid hn
  rw [hn] at HOG ⊢
  have nI : (n : Int) ≤ 1000 := by omega
  have n0 : (0 : Int) ≤ (n : Int) := by omega
  clear hat hs hc hn ho
  obtain ⟨ZS, hzs⟩ := setR zeroSet
  have hz := zero_set
  rw [hzs.eq] at hz
  have HZ := Lib.hid hzs
  clear hzs
  go_enter Try.func17, Try.ntmps17
  go_wp2_with fail
  go_loopw [3, 5, 10] (fun v3 _ v10 wr => ∃ (i : Nat) (a : ByteArray), i ≤ n ∧ v10 = .int .i64 (i : Int) ∧ v3 = .string a ∧ V1 l i a ∧ Below w.heap.size w wr) (fun _ _ v _ => n - (intOf v).toNat)
  case atStart => exact ⟨0, noS, Nat.zero_le _, rfl, rfl, V1.nil l, Below.refl _ _⟩
  case round =>
    obtain ⟨i, ah, hi, rfl, rfl, hv1, hb⟩ := hrel
    have HB := Lib.hid hb
    have HV := Lib.hid hv1
    clear hb hv1
    by_cases hlt : i < n
    · obtain ⟨q, hq⟩ : ∃ q, l[i]? = some q := ⟨_, List.getElem?_eq_getElem (by rw [HN.out]; exact hlt)⟩
      obtain ⟨b, off, rfl, hrg⟩ := HA.out i q hq
      have HRG := Lib.hid (range_below hrg HB.out)
      have hix := index_set b off n c i hlt
      obtain ⟨AR, har⟩ := setR q
      have HAR := Lib.hid har
      have HQ := Lib.hid hq
      have HLT := Lib.hid hlt
      have iI : (i : Int) < (n : Int) := by omega
      have i0 : (0 : Int) ≤ (i : Int) := by omega
      clear hlt hrg hq hi
      go_upto_region 5 with (first
        | (with_reducible refine ld_set (op := ⟨some 13, _, _, _, _, _⟩) rfl _ rfl b (off + i * 37) rfl q _ HAR.out.eq HRG.out ?_)
        | (with_reducible refine wpList_store_row (o := ⟨none, .store _ (.tmp 5) _, _, _, _, _⟩) rfl 38 _ _ rfl wr.heap.size AR rfl rfl 38 ZS (heap_alloc_new wr _) HAR.out.sz (HZ.out.same HAR.out) HAR.out.one ?_))
      generalize hWs : World.setRow _ wr.heap.size _ = wk
      have hst := fresh15 wr ZS AR 38 wk hWs.symm
      have HRk := Lib.hid hst.1
      have HBk := Lib.hid (bt15 HB.out hst.2)
      obtain ⟨d0, d1, d2, d3⟩ := set_atR hst.1 har
      have HXk := Lib.hid (show w.heap.size ≤ wr.heap.size from HB.out.size)
      clear hWs hst hix har HRG
      generalize wr.heap.size = X at *
      have hqm := List.mem_of_getElem? HQ.out
      have HCQ := Lib.hid (HCK.out q hqm AR HAR.out)
      clear hqm
      go_wp2_with (first
        | (with_reducible refine wpList_load_row (o := ⟨some 14, _, _, _, _, _⟩) rfl 38 _ rfl X rfl 38 AR (0, 0) _ HRk.out Try.underlying38 rfl HAR.out.sz ?_))
      refine (HCQ.out _).mono ?_
      rintro e w2 ⟨rfl, hb2⟩
      have HB2 := Lib.hid (bt15 HBk.out hb2)
      have e0 := cell_block15 d0 hb2
      clear hb2 d0 d1 d2 d3 HCQ
      cases hok : okS q with
      | false =>
        have HE := Lib.hid (HV.out.bad HQ.out (fun h => by rw [hok] at h; cases h))
        have hck : checkS q = 4 := by unfold checkS; rw [hok]; rfl
        rw [hck]
        clear hok hck
        go_wp2_with fail
        go_ret
        exact ⟨by rw [HE.out]; rfl, HB2.out⟩
      | true =>
        have HOK := Lib.hid hok
        have hck : checkS q = 0 := by unfold checkS; rw [hok]; rfl
        rw [hck]
        clear hok hck
        obtain ⟨s1, s2, s3⟩ | ⟨s1, s2, s3⟩ | ⟨s1, s2, s3⟩ := str_three ah q.nm
        · have HNX := Lib.hid (HV.out.next HQ.out HOK.out s1)
          clear s1
          go_wp2_with fail
          go_roundw
          case rel => exact ⟨i + 1, q.nm, by have := HLT.out; omega, by go_num, rfl, HNX.out, HB2.out⟩
          case measure => simp [intOf]; have := HLT.out; omega
        · have HE := Lib.hid (HV.out.bad HQ.out (fun _ => s1))
          clear s1
          go_wp2_with fail
          go_ret
          exact ⟨by rw [HE.out]; rfl, HB2.out⟩
        · have HE := Lib.hid (HV.out.bad HQ.out (fun _ => s1))
          clear s1
          go_wp2_with fail
          go_ret
          exact ⟨by rw [HE.out]; rfl, HB2.out⟩
    · obtain rfl : n = i := by omega
      have HV1 := Lib.hid (HV.out.all (by rw [HN.out]; exact Nat.le_refl _))
      have HOR := Lib.hid (HOG.out HV1.out.2)
      clear hi hlt HV HOG
      go_wp2_with fail
      go_loopw [7, 28] (fun _ v28 wr => ∃ i : Nat, i ≤ n ∧ v28 = .int .i64 (i : Int) ∧ V2 l i ∧ Below w.heap.size w wr) (fun _ v _ => n - (intOf v).toNat)
      case atStart => exact ⟨0, Nat.zero_le _, rfl, fun s hs => by simp at hs, HB.out⟩
      case round =>
        clear HB
        obtain ⟨i, hi, rfl, hv2, hb⟩ := hrel
        have HB := Lib.hid hb
        have HV := Lib.hid hv2
        clear hb hv2
        by_cases hlt : i < n
        · obtain ⟨q, hq⟩ : ∃ q, l[i]? = some q := ⟨_, List.getElem?_eq_getElem (by rw [HN.out]; exact hlt)⟩
          obtain ⟨b, off, rfl, hrg⟩ := HA.out i q hq
          have HRG := Lib.hid (range_below hrg HB.out)
          have hix := index_set b off n c i hlt
          obtain ⟨AR, har⟩ := setR q
          have HAR := Lib.hid har
          have HQ := Lib.hid hq
          have HLT := Lib.hid hlt
          have iI : (i : Int) < (n : Int) := by omega
          have i0 : (0 : Int) ≤ (i : Int) := by omega
          clear hlt hrg hq hi
          go_upto_region 12 with (first
            | (with_reducible refine ld_set (op := ⟨some 31, _, _, _, _, _⟩) rfl _ rfl b (off + i * 37) rfl q _ HAR.out.eq HRG.out ?_)
            | (with_reducible refine wpList_store_row (o := ⟨none, .store _ (.tmp 7) _, _, _, _, _⟩) rfl 38 _ _ rfl wr.heap.size AR rfl rfl 38 ZS (heap_alloc_new wr _) HAR.out.sz (HZ.out.same HAR.out) HAR.out.one ?_))
          generalize hWs : World.setRow _ wr.heap.size _ = wk
          have hst := fresh15 wr ZS AR 38 wk hWs.symm
          have HRk := Lib.hid hst.1
          have HBk := Lib.hid (bt15 HB.out hst.2)
          obtain ⟨d0, d1, d2, d3⟩ := set_atR hst.1 har
          have HXk := Lib.hid (show w.heap.size ≤ wr.heap.size from HB.out.size)
          clear hWs hst hix har HRG
          generalize wr.heap.size = X at *
          have HOQ := Lib.hid (HOR.out wk HBk.out q AR HAR.out)
          go_wp2_with (first
            | (with_reducible refine wpList_load_row (o := ⟨some 33, _, _, _, _, _⟩) rfl 38 _ rfl X rfl 38 AR (0, 0) _ HRk.out Try.underlying38 rfl HAR.out.sz ?_))
          refine HOQ.out.mono ?_
          rintro e w2 ⟨rfl, hb2⟩
          have HB2 := Lib.hid (bt15 HBk.out hb2)
          clear hb2 d0 d1 d2 d3 HOQ
          cases hok : orgOk l q with
          | false =>
            have HE := Lib.hid (v2_bad (List.mem_of_getElem? HQ.out) hok)
            clear hok
            go_wp2_with fail
            go_ret
            exact ⟨by rw [HE.out]; rfl, HB2.out⟩
          | true =>
            have HNX := Lib.hid (HV.out.next HQ.out hok)
            clear hok
            go_wp2_with fail
            go_roundw
            case rel => exact ⟨i + 1, by have := HLT.out; omega, by go_num, HNX.out, HB2.out⟩
            case measure => simp [intOf]; have := HLT.out; omega
        · obtain rfl : n = i := by omega
          have HE := Lib.hid (v2_ok HV.out (by rw [HN.out]; exact Nat.le_refl _) HV1.out)
          clear hi hlt
          go_wp2_with fail
          go_ret
          exact ⟨by rw [HE.out]; rfl, HB.out⟩
end Go.Proofs.Ytkafabcklohlmaa
