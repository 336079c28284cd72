/-
  Datasets: the document's Same; great, alive; how acts come in. (Written by tools/XIn.make.py.)
-/
import Derived.Test.YtkafabcklohlmaaIm
namespace Go.Proofs.Ytkafabcklohlmaa
set_option maxRecDepth 4000
set_option linter.unusedVariables false
open Go.ChangeShapes Go.WideShapes Go.ChangeAt Go.RowKit

set_option maxRecDepth 100000 in
set_option maxHeartbeats 3200000 in
theorem rsame15 (u v : Value) (l m : List SetV) (w : World) (h : LS w u l) (k : LS w v m) (hl : l.length ≤ 1000) (hm : m.length ≤ 1000) (ho : ∀ s ∈ l, SetOk s) (hp : ∀ s ∈ m, SetOk s) :
    Calls Try.prog 16 #[u, v] w fun e w' => e = .returned (.bool (decide (l = m))) ∧ Below w.heap.size w w' := by
  obtain ⟨a1, c1, rfl, _, h1⟩ := h
  obtain ⟨a2, c2, rfl, _, h2⟩ := k
  by_cases hn : l.length = m.length
  · have H1 := Lib.hid h1
    have H2 := Lib.hid h2
    have HO := Lib.hid (And.intro ho hp)
    have HN := Lib.hid hn
    have HE := Lib.hid (fun i (h : l.take i = m.take i) (hi : l.length ≤ i) => show decide (l = m) = true by
      rw [decide_eq_true_iff]; rw [List.take_of_length_le hi, List.take_of_length_le (by omega)] at h; exact h)
    rw [← hn]
    obtain ⟨n, hnn⟩ : ∃ n, l.length = n := ⟨_, rfl⟩
    rw [hnn] at HE ⊢
    have HNN := Lib.hid hnn
    have nI : (n : Int) ≤ 1000 := by omega
    clear h1 h2 hn hm hl hnn ho hp
    go_enter Try.func16, Try.ntmps16
    go_wp2_with fail
    go_loopw [5, 13] (fun _ v13 wr => ∃ i : Nat, i ≤ n ∧ v13 = .int .i64 (i : Int) ∧ l.take i = m.take i ∧ Below w.heap.size w wr) (fun _ v _ => n - (intOf v).toNat)
    case atStart => exact ⟨0, by omega, rfl, by simp, Below.refl _ _⟩
    case round =>
      obtain ⟨i, hi, rfl, ht, hB⟩ := hrel
      by_cases hlt : i < n
      · obtain ⟨p, hp⟩ : ∃ p, l[i]? = some p := ⟨_, List.getElem?_eq_getElem (by have := HNN.out; omega)⟩
        obtain ⟨q, hq⟩ : ∃ q, m[i]? = some q := ⟨_, List.getElem?_eq_getElem (by have := HNN.out; have := HN.out; omega)⟩
        obtain ⟨b1, o1, rfl, g1⟩ := H1.out i p hp
        obtain ⟨b2, o2, rfl, g2⟩ := H2.out i q hq
        have hix1 := index_set b1 o1 n c1 i hlt
        have hix2 := index_set b2 o2 n c2 i hlt
        have G1 := Lib.hid (range_below g1 hB)
        have G2 := Lib.hid (range_below g2 hB)
        obtain ⟨AR, har⟩ := setR p
        obtain ⟨BR, hbr⟩ := setR q
        have HAR := Lib.hid har
        have HBR := Lib.hid hbr
        have heq := eq_set p q (HO.out.1 p (List.mem_of_getElem? hp)) (HO.out.2 q (List.mem_of_getElem? hq))
        rw [har.eq, hbr.eq] at heq
        have HT := Lib.hid (show p = q → l.take (i + 1) = m.take (i + 1) by intro e; rw [List.take_add_one, List.take_add_one, hp, hq, ht, e])
        have HF := Lib.hid (show p ≠ q → decide (l = m) = false by rw [decide_eq_false_iff_not]; intro e e2; rw [e2, hq] at hp; cases hp; exact e rfl)
        have HB := Lib.hid hB
        have HLT := Lib.hid hlt
        have iI : (i : Int) < (n : Int) := by omega
        have i0 : (0 : Int) ≤ (i : Int) := by omega
        clear hi hlt ht hB hp hq g1 g2 har hbr
        by_cases hpq : p = q
        · rw [decide_eq_true hpq] at heq
          have HT2 := Lib.hid (HT.out hpq)
          clear hpq HT HF
          go_upto_region 6 with fail
          try simp only [Act.put]
          refine wp_region_below (by kernel_rfl) (by kernel_rfl) ?_
          repeat (first
            | (with_reducible refine quiet_ld_set (o := ⟨some 19, _, _, _, _, _⟩) (by kernel_rfl) _ rfl b1 (o1 + i * 37) rfl p _ HAR.out.eq G1.out ?_
               simp only [Act.put, List.setIfInBounds_toArray, List.set_cons_zero, List.set_cons_succ])
            | (with_reducible refine quiet_ld_set (o := ⟨some 23, _, _, _, _, _⟩) (by kernel_rfl) _ rfl b2 (o2 + i * 37) rfl q _ HBR.out.eq G2.out ?_
               simp only [Act.put, List.setIfInBounds_toArray, List.set_cons_zero, List.set_cons_succ])
            | (go_big_quiet_step (fail)))
          refine wpQuiet_nil ?_
          intro _ hw'
          obtain ⟨pp, hw''⟩ := hw'
          subst hw''
          have HB2 := Lib.hid (bt15 HB.out pp.bel)
          generalize pp.now = w2 at *
          clear pp
          go_wp2_with fail
          go_roundw
          case rel => exact ⟨i + 1, by have := HLT.out; omega, by go_num, HT2.out, HB2.out⟩
          case measure => simp [intOf]; have := HLT.out; omega
        · rw [decide_eq_false hpq] at heq
          have HF2 := Lib.hid (HF.out hpq)
          clear hpq HT HF
          go_upto_region 6 with fail
          try simp only [Act.put]
          refine wp_region_below (by kernel_rfl) (by kernel_rfl) ?_
          repeat (first
            | (with_reducible refine quiet_ld_set (o := ⟨some 19, _, _, _, _, _⟩) (by kernel_rfl) _ rfl b1 (o1 + i * 37) rfl p _ HAR.out.eq G1.out ?_
               simp only [Act.put, List.setIfInBounds_toArray, List.set_cons_zero, List.set_cons_succ])
            | (with_reducible refine quiet_ld_set (o := ⟨some 23, _, _, _, _, _⟩) (by kernel_rfl) _ rfl b2 (o2 + i * 37) rfl q _ HBR.out.eq G2.out ?_
               simp only [Act.put, List.setIfInBounds_toArray, List.set_cons_zero, List.set_cons_succ])
            | (go_big_quiet_step (fail)))
          refine wpQuiet_nil ?_
          intro _ hw'
          obtain ⟨pp, hw''⟩ := hw'
          subst hw''
          have HB2 := Lib.hid (bt15 HB.out pp.bel)
          generalize pp.now = w2 at *
          clear pp
          go_wp2_with fail
          go_ret
          exact ⟨congrArg (fun b => Ending.returned (.bool b)) HF2.out.symm, HB2.out⟩
      · obtain rfl : i = n := by omega
        have HT := Lib.hid (HE.out i ht (Nat.le_refl _))
        have HB := Lib.hid hB
        clear hi hlt ht hB HE
        go_wp2_with fail
        go_ret
        exact ⟨congrArg (fun b => Ending.returned (.bool b)) HT.out.symm, HB.out⟩
  · have HF := Lib.hid (show decide (l = m) = false by rw [decide_eq_false_iff_not]; intro e; exact hn (by rw [e]))
    have hnb : ((l.length : Int) == (m.length : Int)) = false := by simp; omega
    clear h1 h2 hn hl hm ho hp
    go_enter Try.func16, Try.ntmps16
    go_wp2_with fail
    go_ret
    exact ⟨congrArg (fun b => Ending.returned (.bool b)) HF.out.symm, Below.refl _ _⟩
def sumD (l : List SetV) : Nat := (l.map (fun x => x.nm.size + x.fr.size)).sum
theorem sumD_next (l : List SetV) (i : Nat) (x : SetV) (h : l[i]? = some x) : sumD (l.take (i + 1)) = sumD (l.take i) + (x.nm.size + x.fr.size) := by
  unfold sumD
  rw [List.take_add_one, h]
  simp
theorem sumD_mem {l : List SetV} {x : SetV} (h : x ∈ l) : x.nm.size + x.fr.size ≤ sumD l := by
  unfold sumD
  induction l with
  | nil => cases h
  | cons y r ih =>
    rw [List.map_cons, List.sum_cons]
    rcases List.mem_cons.1 h with rfl | h
    · omega
    · have := ih h; omega
theorem sumD_le (l : List SetV) (h : ∀ x ∈ l, SetOk x) : sumD l ≤ l.length * 281474976702464 := by
  unfold sumD
  induction l with
  | nil => simp
  | cons y r ih =>
    have h1 := ih (fun x hx => h x (List.mem_cons_of_mem _ hx))
    have h2 := h y (List.mem_cons_self ..)
    have := h2.ns
    have := h2.fs
    rw [List.map_cons, List.sum_cons, List.length_cons]
    omega
/-- What great answers. -/
def GreatD (l : List SetV) (w : World) (e : Ending) (w' : World) : Prop :=
  (e = .returned (.bool true) ∨ e = .returned (.bool false) ∧ l.length ≤ 100 ∧ ∀ s ∈ l, s.nm.size ≤ 4000 ∧ s.fr.size ≤ 4000) ∧ Below w.heap.size w w'
set_option maxRecDepth 100000 in
set_option maxHeartbeats 3200000 in
theorem great15 (v : Value) (l : List SetV) (w : World) (h : LS w v l) (hs : l.length ≤ 140737488351232) (ho : ∀ s ∈ l, SetOk s) :
    Calls Try.prog 11 #[v] w fun e w' => GreatD l w e w' := by
  obtain ⟨a, c, rfl, hcc, hat⟩ := h
  obtain ⟨n, hn⟩ : ∃ n, l.length = n := ⟨_, rfl⟩
  have HA := Lib.hid hat
  have HN := Lib.hid hn
  have HO := Lib.hid ho
  have HSL := Lib.hid (sumD_le l ho)
  rw [hn] at hs ⊢
  have nI : (n : Int) ≤ 140737488351232 := by omega
  have n0 : (0 : Int) ≤ (n : Int) := by omega
  clear hat hn ho hcc
  obtain ⟨ZS, hzs⟩ := setR zeroSet
  have hz := zero_set
  rw [hzs.eq] at hz
  have HZ := Lib.hid hzs
  clear hzs
  by_cases hb : n ≤ 100
  · have nB : ¬ ((100 : Int) < (n : Int)) := by omega
    have nD : decide ((100 : Int) < (n : Int)) = false := decide_eq_false nB
    have HBN := Lib.hid hb
    clear hb
    go_enter Try.func11, Try.ntmps11
    go_wp2_with fail
    go_loopw [3, 5, 8] (fun v3 _ v8 wr => ∃ i : Nat, i ≤ n ∧ v8 = .int .i64 (i : Int) ∧ v3 = .int .i64 ((sumD (l.take i) : Nat) : Int) ∧ Below w.heap.size w wr) (fun _ _ v _ => n - (intOf v).toNat)
    case atStart => exact ⟨0, Nat.zero_le _, rfl, rfl, Below.refl _ _⟩
    case round =>
      obtain ⟨i, hi, rfl, rfl, hbw⟩ := hrel
      have HB := Lib.hid hbw
      clear hbw
      by_cases hlt : i < n
      · obtain ⟨q, hq⟩ : ∃ q, l[i]? = some q := ⟨_, List.getElem?_eq_getElem (by rw [HN.out]; exact hlt)⟩
        obtain ⟨b, off, rfl, hrg⟩ := HA.out i q hq
        have HRG := Lib.hid (range_below hrg HB.out)
        have hix := index_set b off n c i hlt
        obtain ⟨AR, har⟩ := setR q
        have HAR := Lib.hid har
        have HQ := Lib.hid hq
        have HLT := Lib.hid hlt
        have iI : (i : Int) < (n : Int) := by omega
        have i0 : (0 : Int) ≤ (i : Int) := by omega
        clear hlt hrg hq hi
        go_upto_region 5 with (first
          | (with_reducible refine ld_set (op := ⟨some 11, _, _, _, _, _⟩) rfl _ rfl b (off + i * 37) rfl q _ HAR.out.eq HRG.out ?_)
          | (with_reducible refine wpList_store_row (o := ⟨none, .store _ (.tmp 5) _, _, _, _, _⟩) rfl 38 _ _ rfl wr.heap.size AR rfl rfl 38 ZS (heap_alloc_new wr _) HAR.out.sz (HZ.out.same HAR.out) HAR.out.one ?_))
        generalize hWs : World.setRow _ wr.heap.size _ = wk
        have hst := fresh15 wr ZS AR 38 wk hWs.symm
        have HRk := Lib.hid hst.1
        have HBk := Lib.hid (bt15 HB.out hst.2)
        obtain ⟨d0, d1, d2, d3⟩ := set_atR hst.1 har
        have HXk := Lib.hid (show w.heap.size ≤ wr.heap.size from HB.out.size)
        clear hWs hst hix har HRG
        generalize wr.heap.size = X at *
        have HNX := Lib.hid (sumD_next l i q HQ.out)
        have hqo := HO.out q (List.mem_of_getElem? HQ.out)
        have hs1 := sumD_le (l.take i) (fun y hy => HO.out y (List.mem_of_mem_take hy))
        have hl1 : (l.take i).length ≤ 100 := by rw [List.length_take]; have := HBN.out; have := HLT.out; omega
        have hs2 : sumD (l.take i) ≤ 28147497670246400 := Nat.le_trans hs1 (Nat.mul_le_mul_right _ hl1)
        have kI : (q.nm.size : Int) ≤ 140737488351232 := by have := hqo.ns; omega
        have vI : (q.fr.size : Int) ≤ 140737488351232 := by have := hqo.fs; omega
        generalize sumD (l.take i) = Z at *
        have zI : (Z : Int) ≤ 28147497670246400 := by omega
        have z0 : (0 : Int) ≤ (Z : Int) := by omega
        have k0 : (0 : Int) ≤ (q.nm.size : Int) := by omega
        have v0 : (0 : Int) ≤ (q.fr.size : Int) := by omega
        clear hqo hs1 hl1 hs2
        go_wp2_with fail
        go_roundw
        case rel => exact ⟨i + 1, by have := HLT.out; omega, by go_num, by rw [HNX.out]; first | rfl | (congr 1; done), HBk.out⟩
        case measure => simp [intOf]; have := HLT.out; omega
      · obtain rfl : i = n := by omega
        rw [List.take_of_length_le (Nat.le_of_eq HN.out)]
        have HSM := Lib.hid (fun s (hs : s ∈ l) => sumD_mem hs)
        generalize sumD l = Z at *
        by_cases hz4 : Z ≤ 4000
        · have zI : ¬ ((4000 : Int) < (Z : Int)) := by omega
          have HP := Lib.hid (show GreatD l w (.returned (.bool false)) wr from ⟨.inr ⟨rfl, by rw [HN.out]; exact HBN.out, fun s hs => by have := HSM.out s hs; omega⟩, HB.out⟩)
          clear hz4 hi hlt
          go_wp2_with fail
          go_ret
          exact HP.out
        · have zI : (4000 : Int) < (Z : Int) := by omega
          have HP := Lib.hid (show GreatD l w (.returned (.bool true)) wr from ⟨.inl rfl, HB.out⟩)
          clear hz4 hi hlt
          go_wp2_with fail
          go_ret
          exact HP.out
  · have nB : (100 : Int) < (n : Int) := by omega
    clear hb
    go_enter Try.func11, Try.ntmps11
    go_wp2_with fail
    go_loopw [3, 5, 8] (fun v3 _ v8 wr => ∃ (i : Nat) (z : Int), i ≤ n ∧ v8 = .int .i64 (i : Int) ∧ v3 = .int .i64 z ∧ Below w.heap.size w wr) (fun _ _ v _ => n - (intOf v).toNat)
    case atStart => exact ⟨0, 0, Nat.zero_le _, rfl, rfl, Below.refl _ _⟩
    case round =>
      obtain ⟨i, z, hi, rfl, rfl, hbw⟩ := hrel
      have HB := Lib.hid hbw
      clear hbw
      by_cases hlt : i < n
      · obtain ⟨q, hq⟩ : ∃ q, l[i]? = some q := ⟨_, List.getElem?_eq_getElem (by rw [HN.out]; exact hlt)⟩
        obtain ⟨b, off, rfl, hrg⟩ := HA.out i q hq
        have HRG := Lib.hid (range_below hrg HB.out)
        have hix := index_set b off n c i hlt
        obtain ⟨AR, har⟩ := setR q
        have HAR := Lib.hid har
        have HQ := Lib.hid hq
        have HLT := Lib.hid hlt
        have iI : (i : Int) < (n : Int) := by omega
        have i0 : (0 : Int) ≤ (i : Int) := by omega
        clear hlt hrg hq hi
        go_upto_region 5 with (first
          | (with_reducible refine ld_set (op := ⟨some 11, _, _, _, _, _⟩) rfl _ rfl b (off + i * 37) rfl q _ HAR.out.eq HRG.out ?_)
          | (with_reducible refine wpList_store_row (o := ⟨none, .store _ (.tmp 5) _, _, _, _, _⟩) rfl 38 _ _ rfl wr.heap.size AR rfl rfl 38 ZS (heap_alloc_new wr _) HAR.out.sz (HZ.out.same HAR.out) HAR.out.one ?_))
        generalize hWs : World.setRow _ wr.heap.size _ = wk
        have hst := fresh15 wr ZS AR 38 wk hWs.symm
        have HRk := Lib.hid hst.1
        have HBk := Lib.hid (bt15 HB.out hst.2)
        obtain ⟨d0, d1, d2, d3⟩ := set_atR hst.1 har
        have HXk := Lib.hid (show w.heap.size ≤ wr.heap.size from HB.out.size)
        clear hWs hst hix har HRG
        generalize wr.heap.size = X at *
        go_wp2_with fail
        go_roundw
        case rel => exact ⟨i + 1, _, by have := HLT.out; omega, by go_num, rfl, HBk.out⟩
        case measure => simp [intOf]; have := HLT.out; omega
      · obtain rfl : i = n := by omega
        have HP := Lib.hid (show GreatD l w (.returned (.bool true)) wr from ⟨.inl rfl, HB.out⟩)
        clear hi hlt
        go_wp2_with fail
        go_ret
        exact HP.out
def sA : ByteArray := ⟨#[97]⟩
def sB : ByteArray := ⟨#[98]⟩
def sC : ByteArray := ⟨#[99]⟩
def exDA : List SetV := [⟨sA, noS, false, zeroPtr⟩]
def exDB : List SetV := [⟨sA, noS, false, zeroPtr⟩, ⟨sB, sA, true, zeroPtr⟩]
def exDC : List SetV := [⟨sA, noS, false, zeroPtr⟩, ⟨sB, sA, true, zeroPtr⟩, ⟨sC, sB, false, zeroPtr⟩]
theorem exD_1 : createD [] sA = (0, exDA) := by decide +kernel
theorem exD_2 : snapD exDA sA sB = (0, exDB) := by decide +kernel
theorem exD_3 : cloneD exDB sB sC = (0, exDC) := by decide +kernel
theorem exD_4 : destD exDC sB = (11, []) := by decide +kernel
theorem exD_5 : destD exDC sA = (11, []) := by decide +kernel
theorem exD_ok : (∀ s ∈ exDA, SetOk s) ∧ (∀ s ∈ exDB, SetOk s) ∧ (∀ s ∈ exDC, SetOk s) := by
  refine ⟨fun s h => okS_ok ?_, fun s h => okS_ok ?_, fun s h => okS_ok ?_⟩
  · exact List.all_eq_true.1 (show exDA.all okS = true by decide +kernel) s h
  · exact List.all_eq_true.1 (show exDB.all okS = true by decide +kernel) s h
  · exact List.all_eq_true.1 (show exDC.all okS = true by decide +kernel) s h
set_option maxRecDepth 100000 in
set_option maxHeartbeats 3200000 in
theorem alive15 (w : World) : Calls Try.prog 10 #[] w fun e w' => e = .returned (.bool true) ∧ Below w.heap.size w w' := by
  have H1 := Lib.hid (show Calls Try.prog 29 #[.slice none 0 0, .string ⟨#[97]⟩] w _ from pcreate15 _ [] sA w (ls_nil w) (by decide) (fun s h => by simp at h) (by decide))
  have H2 := Lib.hid (fun v W (h : LS W v exDA) => show Calls Try.prog 27 #[v, .string ⟨#[97]⟩, .string ⟨#[98]⟩] W _ from psnap15 v exDA sA sB W h (by decide) exD_ok.1 (by decide))
  have H3 := Lib.hid (fun v W (h : LS W v exDB) => show Calls Try.prog 28 #[v, .string ⟨#[98]⟩, .string ⟨#[99]⟩] W _ from pclone15 v exDB sB sC W h (by decide) exD_ok.2.1 (by decide))
  have H4 := Lib.hid (fun v W (h : LS W v exDC) => show Calls Try.prog 25 #[v, .string ⟨#[98]⟩] W _ from pdest15 v exDC sB W h (by decide) exD_ok.2.2)
  have H5 := Lib.hid (fun v W (h : LS W v exDC) => show Calls Try.prog 25 #[v, .string ⟨#[97]⟩] W _ from pdest15 v exDC sA W h (by decide) exD_ok.2.2)
  simp only [DoPost, exD_1, exD_2, exD_3, exD_4, exD_5] at H1 H2 H3 H4 H5
  go_enter Try.func10, Try.ntmps10
  go_wp2_with fail
  refine H1.out.mono ?_
  rintro e w1 ⟨v1, rfl, ho1, hb1⟩
  have HO1 := Lib.hid ho1.ls
  have HB1 := Lib.hid hb1
  clear ho1 hb1 H1
  go_wp2_with fail
  refine (H2.out _ _ HO1.out).mono ?_
  rintro e w2 ⟨v2, rfl, ho2, hb2⟩
  have HO2 := Lib.hid ho2.ls
  have HB2 := Lib.hid (bt15 HB1.out hb2)
  clear ho2 hb2 H2
  go_wp2_with fail
  refine (H3.out _ _ HO2.out).mono ?_
  rintro e w3 ⟨v3, rfl, ho3, hb3⟩
  have HO3 := Lib.hid ho3.ls
  have HB3 := Lib.hid (bt15 HB2.out hb3)
  clear ho3 hb3 H3
  go_wp2_with fail
  refine (H4.out _ _ HO3.out).mono ?_
  rintro e w4 ⟨v4, rfl, _, hb4⟩
  have HO4 := Lib.hid (HO3.out.below hb4)
  have HB4 := Lib.hid (bt15 HB3.out hb4)
  clear hb4 H4
  go_wp2_with fail
  refine (H5.out _ _ HO4.out).mono ?_
  rintro e w5 ⟨v5, rfl, _, hb5⟩
  have HB5 := Lib.hid (bt15 HB4.out hb5)
  obtain ⟨a, c, rfl, hc, hat⟩ := HO4.out.below hb5
  clear hb5 H5
  obtain ⟨b, off, rfl, hr1⟩ := hat 1 _ rfl
  obtain ⟨b', off', hbe, hr2⟩ := hat 2 _ rfl
  injection hbe with hbe
  injection hbe with hb1 hb2
  subst hb1 hb2
  obtain ⟨_, _, c2, _⟩ := set_range hr1
  obtain ⟨_, c1, _, _⟩ := set_range hr2
  have hi1 := index_set b off 3 c 1 (by decide)
  have hi2 := index_set b off 3 c 2 (by decide)
  have hl3 : exDC.length = 3 := rfl
  rw [hl3]
  replace c1 : w5.cell? ⟨b, off + 2 * 37 + 1, none⟩ = some (.string ⟨#[98]⟩) := c1
  replace c2 : w5.cell? ⟨b, off + 1 * 37 + 2, none⟩ = some (.bool true) := c2
  clear hr1 hr2 hat hc hl3
  go_wp2_with fail
  go_ret
  exact ⟨rfl, HB5.out⟩
end Go.Proofs.Ytkafabcklohlmaa
