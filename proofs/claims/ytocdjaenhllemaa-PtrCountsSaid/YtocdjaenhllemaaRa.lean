/-
  All of the reference's Counts of layer 8.
-/
import Derived.Test.YtocdjaenhllemaaRo
import Derived.Test.YtocdjaenhllemaaLe
import Derived.Test.YtocdjaenhllemaaSm
import Derived.Test.YtocdjaenhllemaaBy
namespace Go.Proofs.Ytocdjaenhllemaa
set_option maxRecDepth 4000
set_option linter.unusedVariables false
open Go.ChangeShapes Go.WideShapes Go.ChangeAt Go.RowKit

theorem ins8_at : ∀ (out : List PtrV) (j : Nat) (p : PtrV), (∀ x ∈ out.take j, nuP x < nuP p) → (∀ y, out[j]? = some y → ¬ nuP y < nuP p) → ins8 p out = if out[j]? = some p then out else out.take j ++ p :: out.drop j
  | [], j, p, _, _ => by simp [ins8]
  | x :: r, 0, p, _, h => by
    have hx := h x rfl
    unfold ins8
    rw [if_neg hx]
    simp
  | x :: r, j + 1, p, h1, h2 => by
    have hx := h1 x (by simp)
    have ih := ins8_at r j p (fun z hz => h1 z (by simp [hz])) (fun y hy => h2 y (by simpa using hy))
    unfold ins8
    rw [if_pos hx, ih]
    simp only [List.getElem?_cons_succ]
    split <;> simp
theorem ps_block {w : World} {y : Nat} {QR : Array Value} (h : w.heap[y]? = some (.cells QR 35 (0, 0))) : ∀ p : PtrV, (ptrRow p).toArray = QR → PS w (.slice (some ⟨y, 0, none⟩) 1 1) [p] := by
  rintro p rfl
  refine ⟨_, 1, rfl, fun i q hq => ?_⟩
  cases i with
  | zero =>
    simp at hq
    subst hq
    exact ⟨y, 0, rfl, by simpa using range_of_row h⟩
  | succ i => simp at hq
theorem allL_short (L : List PtrV) : (allL L).length ≤ L.length := by
  have h1 : ∀ (q : PtrV) (l : List PtrV), (ins8 q l).length ≤ l.length + 1 := by
    intro q l
    induction l with
    | nil => simp [ins8]
    | cons p r ih =>
      unfold ins8
      split
      · simp only [List.length_cons]; omega
      · split <;> simp
  have h2 : ∀ (L out : List PtrV), (L.foldl (fun out q => ins8 q out) out).length ≤ out.length + L.length := by
    intro L
    induction L with
    | nil => intro out; simp
    | cons q L ih =>
      intro out
      have := ih (ins8 q out)
      have := h1 q out
      simp only [List.foldl_cons, List.length_cons]
      omega
  have h3 := h2 L []
  simpa [allL] using h3
set_option maxRecDepth 100000 in
set_option maxHeartbeats 3200000 in
theorem rall8 (w0 w : World) (M : Nat) (v : Value) (L : List PtrV) (h : RQ w0 w M v L) (hL : L.length ≤ 1000) :
    Calls Try.prog 13 #[.pointer (some ⟨M, 0, none⟩)] w fun e w' => ∃ a c, e = .returned (.slice a (allL L).length c) ∧ PS w' (.slice a (allL L).length c) (allL L) ∧ Below w.heap.size w w' := by
  obtain ⟨av, cv, rfl, hps⟩ := ps_own h.own
  have hc0 := cell_of_row _ M 0 _ _ _ h.cell
  have HPS := Lib.hid hps
  have HLS := Lib.hid (fun i : Nat => allL_short (L.take i))
  have hzp := zero_ptr
  have HZL := Lib.hid (fun q : PtrV => show (ptrRow zeroPtr).toArray.size = (ptrRow q).toArray.size by simp [ptrRow_length])
  obtain ⟨ZA, hZA⟩ : ∃ ZA, (ptrRow zeroPtr).toArray = ZA := ⟨_, rfl⟩
  rw [hZA] at hzp HZL
  obtain ⟨n, hn⟩ : ∃ n, L.length = n := ⟨_, rfl⟩
  have HNN := Lib.hid hn
  rw [hn] at hc0 hL
  have n0 : (0 : Int) ≤ (n : Int) := by omega
  have n1 : (n : Int) ≤ 1000 := by omega
  have HN1 := Lib.hid hL
  have HEQ := Lib.hid (fun p q : PtrV => eq_ptr p q)
  clear h hps hZA hn hL
  go_enter Try.func13, Try.ntmps13
  go_wp2_with fail
  clear hc0
  go_loopw [12, 3] (fun v12 v3 wr => ∃ (i : Nat) (a : Option Addr) (k c : Nat), i ≤ n ∧ v12 = .int .i64 (i : Int) ∧ v3 = .slice a k c ∧ wr.ownsRow w.heap.size 35 34 (.slice a k c) k (rowsP (allL (L.take i))) ∧ Below w.heap.size w wr) (fun v _ _ => n - (intOf v).toNat)
  case atStart => exact ⟨0, none, 0, 0, by omega, rfl, rfl, by rw [List.take_zero]; exact World.ownsRow_nil w w.heap.size 35 34, Below.refl _ _⟩
  case round =>
    obtain ⟨i, ao, m, co, hi, rfl, rfl, ho, hB⟩ := hrel
    by_cases hlt : i < n
    · obtain ⟨p, hxi⟩ : ∃ p, L[i]? = some p := ⟨_, List.getElem?_eq_getElem (by have := HNN.out; omega)⟩
      obtain ⟨b, off, rfl, hrg0⟩ := HPS.out i p hxi
      have hrg := range_below hrg0 hB
      have HXI := Lib.hid hxi
      have hix := index_ptr b off n cv i hlt
      have SWC := Lib.hid (size_ptr p)
      have SWR := Lib.hid (size_ptrA p)
      have EW := Lib.hid (HZL.out p)
      have WO := Lib.hid (ptrRow_one p)
      have HRG := Lib.hid hrg
      have HLT := Lib.hid hlt
      have iI : (i : Int) < (n : Int) := by omega
      have i0 : (0 : Int) ≤ (i : Int) := by omega
      have HB := Lib.hid hB
      have HO := Lib.hid ho
      have HOL := Lib.hid ho
      obtain ⟨out, hout⟩ : ∃ out, allL (L.take i) = out := ⟨_, rfl⟩
      have HOUT := Lib.hid hout
      have hlo : out.length = m := by
        have h1 := ho.1
        rw [hout, rowsP_length] at h1
        omega
      have hpo := ps_own ho
      rw [hout] at hpo
      have HMS := Lib.hid (show m ≤ 1000 by have h1 := HLS.out i; rw [hout, hlo, List.length_take] at h1; have := HN1.out; omega)
      have hcap : m ≤ co := by
        rcases ho.2 with ⟨h1, h2⟩ | ⟨g, c, cur, h1, _, _, h3, _⟩
        · injection h1 with _ h4 h5; omega
        · injection h1 with _ h4 h5; omega
      have HCAP := Lib.hid hcap
      clear hi hlt hrg hrg0 hxi hB ho hout hcap
      go_upto_region 5 with (first
        | (with_reducible refine wpList_load_mid (op := ⟨some 15, _, _, _, _, _⟩) rfl 35 _ rfl b (off + i * 34) rfl (ptrRow p) _ HRG.out Try.underlying35 rfl SWC.out ?_)
        | (with_reducible refine wpList_store_row (o := ⟨none, .store _ (.tmp 5) _, _, _, _, _⟩) rfl 35 _ _ rfl wr.heap.size (ptrRow p).toArray rfl rfl 35 ZA (heap_alloc_new wr _) SWR.out EW.out WO.out ?_))
      clear hix
      obtain ⟨h5, hb5⟩ := new_row8 wr ZA (ptrRow p).toArray
      generalize World.setRow _ wr.heap.size _ = w5 at *
      have HT5 := Lib.hid (range_of_row h5)
      have HW5 := Lib.hid (HB.out.trans (hb5.mono HB.out.size))
      have HPO := Lib.hid (PS.below hpo hb5)
      have how := own_belowP HOL.out hb5
      rw [HOUT.out] at how
      have HOW := Lib.hid how
      clear how HOL
      obtain ⟨T, hT⟩ : ∃ T, wr.heap.size = T := ⟨_, rfl⟩
      rw [hT] at HT5 ⊢
      obtain ⟨QL, hQL⟩ : ∃ QL, ptrRow p = QL := ⟨_, rfl⟩
      have HQA := Lib.hid (show (ptrRow p).toArray = QL.toArray by rw [hQL])
      have SZL := Lib.hid (show (Try.prog.info? 35).map (·.size) = some QL.length by rw [← hQL]; exact size_ptr p)
      rw [hQL] at HT5
      have HQP := Lib.hid hQL
      clear h5 hb5 hT HRG SWC SWR EW WO HB HO hpo hQL
      have m0 : (0 : Int) ≤ (m : Int) := by omega
      have m1 : (m : Int) ≤ 1000 := by have := HMS.out; omega
      have HLO := Lib.hid hlo
      have HM1 := Lib.hid (show out.length ≤ 1000 by have := HMS.out; omega)
      clear hlo
      go_wp2_with fail
      go_loopw [6] (fun v6 wr => ∃ j : Nat, j ≤ m ∧ v6 = .int .i64 (j : Int) ∧ (∀ x ∈ out.take j, nuP x < nuP p) ∧ Below w5.heap.size w5 wr) (fun v _ => m - (intOf v).toNat)
      case atStart => exact ⟨0, by omega, rfl, by simp, Below.refl _ _⟩
      case round =>
        obtain ⟨j, hj, rfl, hless, hBJ⟩ := hrel
        have HBJ := Lib.hid hBJ
        clear hBJ
        by_cases hjl : j < m
        · obtain ⟨y, hyj⟩ : ∃ y, out[j]? = some y := ⟨_, List.getElem?_eq_getElem (by have := HLO.out; omega)⟩
          have hp1 := HPO.out.below HBJ.out
          obtain ⟨a', c', e', hcs⟩ := hp1
          injection e' with e1 e2 e3
          subst e1 e3
          obtain ⟨bo, oo, rfl, hry⟩ := hcs j y hyj
          have hixo := index_ptr bo oo m co j hjl
          have HRY := Lib.hid (by_range hry)
          have HRT := Lib.hid (by_range (range_below HT5.out HBJ.out))
          have SZY := Lib.hid (size_ptr y)
          have jI : (j : Int) < (m : Int) := by omega
          have j0 : (0 : Int) ≤ (j : Int) := by omega
          have HLE := Lib.hid (fun W => rless_any y p W)
          rw [HQP.out] at HLE
          have HJL := Lib.hid hjl
          have heqp := HEQ.out y p
          rw [HQP.out] at heqp
          obtain ⟨YL, hYL⟩ : ∃ YL, ptrRow y = YL := ⟨_, rfl⟩
          rw [hYL] at HRY SZY HLE heqp
          clear hcs hry hYL e2 hj hjl
          by_cases hd : nuP y < nuP p
          · rw [decide_eq_true hd] at HLE
            have HND := Lib.hid (show ∀ x ∈ out.take (j + 1), nuP x < nuP p from fun x hx => by
              rw [List.take_add_one, hyj] at hx
              rcases List.mem_append.1 hx with hx | hx
              · exact hless x hx
              · simp at hx; subst hx; exact hd)
            clear hd hless hyj heqp
            go_upto_region 6 with fail
            try simp only [Act.put]
            refine wp_region_below (by kernel_rfl) (by kernel_rfl) ?_
            repeat (first
              | (with_reducible refine quiet_load_row (o := ⟨some 24, _, _, _, _, _⟩) (by kernel_rfl) 35 _ rfl bo (oo + j * 34) rfl YL _ HRY.out Try.underlying35 rfl SZY.out ?_
                 simp only [Act.put, List.setIfInBounds_toArray, List.set_cons_zero, List.set_cons_succ])
              | (with_reducible refine quiet_load_row (o := ⟨some 25, _, _, _, _, _⟩) (by kernel_rfl) 35 _ rfl T 0 rfl QL _ HRT.out Try.underlying35 rfl SZL.out ?_
                 simp only [Act.put, List.setIfInBounds_toArray, List.set_cons_zero, List.set_cons_succ])
              | (go_big_quiet_step ((go_at_call 19; exact calls_below (HLE.out _)))))
            refine wpQuiet_nil ?_
            intro _ hw'
            obtain ⟨p0, hw''⟩ := hw'
            subst hw''
            have HB7 := Lib.hid (HBJ.out.trans (p0.bel.mono HBJ.out.size))
            clear hixo HRY HRT HLE SZY
            generalize p0.now = w7 at *
            go_wp2_with fail
            go_roundw
            case rel => exact ⟨j + 1, HJL.out, by go_num, HND.out, HB7.out⟩
            case measure => simp [intOf]; have := HJL.out; omega
          · rw [decide_eq_false hd] at HLE
            have hnot : ∀ z, out[j]? = some z → ¬ nuP z < nuP p := fun z hz => by rw [hyj] at hz; injection hz with hz; subst hz; exact hd
            have HNOT := Lib.hid (And.intro hless (And.intro hnot hyj))
            clear hd hless hnot hyj
            go_upto_region 6 with fail
            try simp only [Act.put]
            refine wp_region_below (by kernel_rfl) (by kernel_rfl) ?_
            repeat (first
              | (with_reducible refine quiet_load_row (o := ⟨some 24, _, _, _, _, _⟩) (by kernel_rfl) 35 _ rfl bo (oo + j * 34) rfl YL _ HRY.out Try.underlying35 rfl SZY.out ?_
                 simp only [Act.put, List.setIfInBounds_toArray, List.set_cons_zero, List.set_cons_succ])
              | (with_reducible refine quiet_load_row (o := ⟨some 25, _, _, _, _, _⟩) (by kernel_rfl) 35 _ rfl T 0 rfl QL _ HRT.out Try.underlying35 rfl SZL.out ?_
                 simp only [Act.put, List.setIfInBounds_toArray, List.set_cons_zero, List.set_cons_succ])
              | (go_big_quiet_step ((go_at_call 19; exact calls_below (HLE.out _)))))
            refine wpQuiet_nil ?_
            intro _ hw'
            obtain ⟨p0, hw''⟩ := hw'
            subst hw''
            have HB7 := Lib.hid (HBJ.out.trans (p0.bel.mono HBJ.out.size))
            have HRY7 := Lib.hid (by_range (HRY.out p0.now ⟨p0, rfl⟩))
            have HRT7 := Lib.hid (by_range (HRT.out p0.now ⟨p0, rfl⟩))
            clear HRY HRT HLE
            generalize p0.now = w7 at *
            by_cases hyp : y = p
            · subst hyp
              rw [show decide (y = y) = true by simp] at heqp
              go_upto_region 8 with fail
              try simp only [Act.put]
              refine wp_region_below (by kernel_rfl) (by kernel_rfl) ?_
              repeat (first
                | (with_reducible refine quiet_load_row (o := ⟨some 38, _, _, _, _, _⟩) (by kernel_rfl) 35 _ rfl bo (oo + j * 34) rfl YL _ HRY7.out Try.underlying35 rfl SZY.out ?_
                   simp only [Act.put, List.setIfInBounds_toArray, List.set_cons_zero, List.set_cons_succ])
                | (with_reducible refine quiet_load_row (o := ⟨some 39, _, _, _, _, _⟩) (by kernel_rfl) 35 _ rfl T 0 rfl QL _ HRT7.out Try.underlying35 rfl SZL.out ?_
                   simp only [Act.put, List.setIfInBounds_toArray, List.set_cons_zero, List.set_cons_succ])
                | (go_big_quiet_step (fail)))
              refine wpQuiet_nil ?_
              intro _ hw'
              obtain ⟨p0, hw''⟩ := hw'
              subst hw''
              have HB8 := Lib.hid (HB7.out.trans (p0.bel.mono HB7.out.size))
              clear hixo HRY7 HRT7 SZY heqp
              generalize p0.now = w8 at *
              have HW8 := Lib.hid (HW5.out.trans (HB8.out.mono HW5.out.size))
              have HON := Lib.hid (show w8.ownsRow w.heap.size 35 34 (.slice (some ⟨bo, oo, none⟩) m co) m (rowsP (allL (L.take (i + 1)))) from by
                rw [List.take_add_one, HXI.out]
                show w8.ownsRow w.heap.size 35 34 (.slice (some ⟨bo, oo, none⟩) m co) m (rowsP (allL (L.take i ++ [y])))
                rw [allL_snoc, HOUT.out, ins8_at out j y HNOT.out.1 HNOT.out.2.1, if_pos HNOT.out.2.2]
                exact own_belowP HOW.out HB8.out)
              go_wp2_with fail
              go_roundw
              case rel => exact ⟨i + 1, _, _, _, HLT.out, by go_num, rfl, HON.out, HW8.out⟩
              case measure => simp [intOf]; have := HLT.out; omega
            · rw [decide_eq_false hyp] at heqp
              go_upto_region 8 with fail
              try simp only [Act.put]
              refine wp_region_below (by kernel_rfl) (by kernel_rfl) ?_
              repeat (first
                | (with_reducible refine quiet_load_row (o := ⟨some 38, _, _, _, _, _⟩) (by kernel_rfl) 35 _ rfl bo (oo + j * 34) rfl YL _ HRY7.out Try.underlying35 rfl SZY.out ?_
                   simp only [Act.put, List.setIfInBounds_toArray, List.set_cons_zero, List.set_cons_succ])
                | (with_reducible refine quiet_load_row (o := ⟨some 39, _, _, _, _, _⟩) (by kernel_rfl) 35 _ rfl T 0 rfl QL _ HRT7.out Try.underlying35 rfl SZL.out ?_
                   simp only [Act.put, List.setIfInBounds_toArray, List.set_cons_zero, List.set_cons_succ])
                | (go_big_quiet_step (fail)))
              refine wpQuiet_nil ?_
              intro _ hw'
              obtain ⟨p0, hw''⟩ := hw'
              subst hw''
              have HB8 := Lib.hid (HB7.out.trans (p0.bel.mono HB7.out.size))
              clear hixo HRY7 HRT7 SZY heqp
              generalize p0.now = w8 at *
              obtain ⟨hless, hnot, hyj⟩ := HNOT.out
              have hne : ¬ out[j]? = some p := by rw [hyj]; intro e; injection e with e; exact hyp e
              have hjm : j ≤ m := by omega
              obtain ⟨ao, hao⟩ : ∃ ao, (some ⟨bo, oo, none⟩ : Option Addr) = ao := ⟨_, rfl⟩
              rw [hao] at HPO ⊢
              clear hao hyp hyj
              have HW8 := Lib.hid (HW5.out.trans (HB8.out.mono HW5.out.size))
              have hjm' : j ≤ m := by omega
              have HJM := Lib.hid hjm'
              have HPO8 := Lib.hid (HPO.out.below HB8.out)
              obtain ⟨hs2, hp2⟩ := to_ps w8 ao m co j out HPO8.out hjm' HCAP.out
              obtain ⟨a3, hs3, hp3⟩ := cut_ps w8 ao m co j out HPO8.out hjm' HCAP.out
              generalize (if co = 0 then ao else ao.map (·.add 0)) = a2 at *
              obtain ⟨r, hr⟩ : ∃ r, m - j = r := ⟨_, rfl⟩
              rw [hr] at hs3 hp3
              have HTL := Lib.hid (show (out.take j).length = j ∧ (out.drop j).length = r from ⟨by rw [List.length_take]; have := HLO.out; omega, by rw [List.length_drop, HLO.out]; exact hr⟩)
              clear hr
              have HPT := Lib.hid hp2
              have HPD := Lib.hid hp3
              have HS := Lib.hid (show ∀ W, Below w8.heap.size w8 W → W.rangeAt T 0 QL from fun W b => range_below (range_below HT5.out HB8.out) b)
              have HLI := Lib.hid (fun W => by have h := lit_ptr8 p W; rw [HQA.out] at h; exact h)
              have HFIN := Lib.hid (show ∀ (a : Option Addr) (c k : Nat) (W : World), W.ownsRow w8.heap.size 35 34 (.slice a k c) k (rowsP (out.take j ++ [p] ++ out.drop j)) → Below w8.heap.size w8 W → ∃ (i' : Nat) (a' : Option Addr) (k' c' : Nat), i' ≤ n ∧ (Value.int IntKind.i64 ((i : Int) + 1)) = .int .i64 (i' : Int) ∧ (Value.slice a k c) = .slice a' k' c' ∧ W.ownsRow w.heap.size 35 34 (.slice a' k' c') k' (rowsP (allL (L.take i'))) ∧ Below w.heap.size w W from fun a c k W ho hb => by
                refine ⟨i + 1, a, k, c, HLT.out, by simp, rfl, ?_, HW8.out.trans (hb.mono HW8.out.size)⟩
                have e : allL (L.take (i + 1)) = out.take j ++ [p] ++ out.drop j := by
                  rw [List.take_add_one, HXI.out]
                  show allL (L.take i ++ [p]) = _
                  rw [allL_snoc, HOUT.out, ins8_at out j p hless hnot, if_neg hne]
                  simp
                rw [e]
                exact own_low ho HW8.out.size)
              clear hp2 hp3 hjm' hless hnot hne HPO8
              go_upto_region 9 with fail
              try simp only [Act.put]
              refine wp_region_noPanic ?_
              refine wp_region_held_drew (S := fun W => W.rangeAt T 0 QL) (by kernel_rfl) (HS.out w8.drew (Below.refl _ w8).drew) (fun hHeld => ?_)
              refine wpAnyH_take (i := 1) (oi := ⟨some 43, _, _, _, _, _⟩) (v := ?_) rfl (by kernel_rfl) (by decide +kernel) (by decide +kernel) (fun _ _ _ h => h) (Or.inl ⟨by rfl, ?_⟩) (by assumption) ?_
              rotate_left 1
              · (intro w' hSw; go_simp; try with_reducible rfl)
              try simp only [Act.put, List.setIfInBounds_toArray, List.set_cons_zero, List.set_cons_succ]
              refine wpAnyH_take (i := 2) (oi := ⟨some 44, _, _, _, _, _⟩) (v := ?_) rfl (by kernel_rfl) (by decide +kernel) (by decide +kernel) (fun _ _ _ h => h) (Or.inl ⟨by rfl, ?_⟩) (by assumption) ?_
              rotate_left 1
              · (intro w' hSw; go_simp; try with_reducible rfl)
              try simp only [Act.put, List.setIfInBounds_toArray, List.set_cons_zero, List.set_cons_succ]
              refine wpAnyH_take (i := 3) (oi := ⟨some 45, _, _, _, _, _⟩) (v := ?_) rfl (by kernel_rfl) (by decide +kernel) (by decide +kernel) (fun _ _ _ h => h) (Or.inl ⟨by rfl, ?_⟩) (by assumption) ?_
              rotate_left 1
              · (intro w' hSw; go_simp; try with_reducible rfl)
              try simp only [Act.put, List.setIfInBounds_toArray, List.set_cons_zero, List.set_cons_succ]
              refine wpAnyH_take (i := 5) (oi := ⟨some 47, _, _, _, _, _⟩) rfl (by kernel_rfl) (by decide +kernel) (by decide +kernel) (fun _ _ _ h => h) (yieldsIf_load_mid (by rfl) _ _ rfl T 0 rfl QL _ (fun w' h => h) Try.underlying35 rfl SZL.out) (HS.out w8.drew (Below.refl _ w8).drew) ?_
              try simp only [Act.put, List.setIfInBounds_toArray, List.set_cons_zero, List.set_cons_succ]
              refine wpAnyH_take (i := 8) (oi := ⟨some 50, _, _, _, _, _⟩) (v := ?_) rfl (by kernel_rfl) (by decide +kernel) (by decide +kernel) (fun _ _ _ h => h) (Or.inl ⟨by rfl, ?_⟩) (by assumption) ?_
              rotate_left 1
              · (intro w' hSw; go_simp; try with_reducible rfl)
              try simp only [Act.put, List.setIfInBounds_toArray, List.set_cons_zero, List.set_cons_succ]
              refine wpAnyH_take (i := 9) (oi := ⟨some 51, _, _, _, _, _⟩) (v := ?_) rfl (by kernel_rfl) (by decide +kernel) (by decide +kernel) (fun _ _ _ h => h) (Or.inl ⟨by rfl, ?_⟩) (by assumption) ?_
              rotate_left 1
              · (intro w' hSw; go_simp; try with_reducible rfl)
              try simp only [Act.put, List.setIfInBounds_toArray, List.set_cons_zero, List.set_cons_succ]
              refine wpAnyH_take (i := 10) (oi := ⟨some 52, _, _, _, _, _⟩) (v := ?_) rfl (by kernel_rfl) (by decide +kernel) (by decide +kernel) (fun _ _ _ h => h) (Or.inl ⟨by rfl, ?_⟩) (by assumption) ?_
              rotate_left 1
              · (intro w' hSw; go_simp; try with_reducible rfl)
              try simp only [Act.put, List.setIfInBounds_toArray, List.set_cons_zero, List.set_cons_succ]
              have HX0 := Lib.hid (Below.refl w8.heap.size w8).drew
              generalize w8.drew = x0 at *
              refine wpAnyH_ready (rs := [0, 6]) (by decide +kernel) (by simp) ?_
              refine AllReadyH.cons rfl (fun K hK => ?_) (AllReadyH.cons rfl (fun K hK => ?_) AllReadyH.nil)
              · have hln := lit_noptr x0
                go_simp
                refine hK.out _ _ (HS.out _ (HX0.out.alloc HX0.out.size (.cells #[] 35))) (fun hHeld => ?_)
                clear hK K hln hHeld
                try simp only [Act.put, List.setIfInBounds_toArray, List.set_cons_zero, List.set_cons_succ]
                have HX1 := Lib.hid (HX0.out.alloc HX0.out.size (.cells #[] 35))
                have HA1 := Lib.hid (show (x0.alloc (.cells #[] 35)).ownsRow w8.heap.size 35 34 (.slice (some ⟨x0.heap.size, 0, none⟩) 0 0) 0 (rowsP []) from World.ownsRow_lit (base := w8.heap.size) (e := 35) (size := 34) x0 #[] 0 HX0.out.size (by decide) rfl)
                obtain ⟨gA, hgA⟩ : ∃ g, x0.heap.size = g := ⟨_, rfl⟩
                rw [hgA] at HA1 ⊢
                generalize x0.alloc (.cells #[] 35) = x1 at *
                clear HX0 hgA
                refine wpAnyH_ready (rs := [4, 6]) (by decide +kernel) (by simp) ?_
                refine AllReadyH.cons rfl (fun K hK => ?_) (AllReadyH.cons rfl (fun K hK => ?_) AllReadyH.nil)
                · obtain ⟨aB, cB, x2, hrB, hoB, hgrB, hblB⟩ := append_ps x1 w8.heap.size 0 _ _ [] (out.take j) HA1.out (HPT.out.below HX1.out) (by omega) (by rw [List.length_take]; have := HJM.out; have := HM1.out; omega) HX1.out.size
                  rw [HTL.out.1, Nat.zero_add] at hrB hoB hblB
                  have hbB := HX1.out.grown hgrB HX1.out.size (fun k e => (HA1.out.lt k e).1)
                  rw [List.nil_append] at hoB
                  have HRB := Lib.hid hrB
                  rw [if_pos (by kernel_rfl)]
                  refine wp_append_at (o := ⟨some 46, _, _, _, _, _⟩) (.tmp 42) (.tmp 45) 27 rfl _ _ rfl rfl _ _ HRB.out ?_
                  refine hK.out _ _ (HS.out _ hbB) (fun hHeld => ?_)
                  clear hK K hHeld
                  try simp only [Act.put, List.setIfInBounds_toArray, List.set_cons_zero, List.set_cons_succ]
                  have HX2 := Lib.hid hbB
                  have HB2 := Lib.hid hoB
                  clear hrB hoB hgrB hbB hblB HRB HA1 HX1
                  refine wpAnyH_ready (rs := [6]) (by decide +kernel) (by simp) ?_
                  refine AllReadyH.cons rfl (fun K hK => ?_) AllReadyH.nil
                  rw [if_pos (by kernel_rfl)]
                  refine wp_lit_at (o := ⟨some 48, _, _, _, _, _⟩) _ _ _ rfl #[(0, .agg QL.toArray)] (by simp [Act.eval]) _ _ (HLI.out _) ?_
                  refine hK.out _ _ (HS.out _ (HX2.out.alloc HX2.out.size (.cells QL.toArray 35))) (fun hHeld => ?_)
                  clear hK K hHeld
                  try simp only [Act.put, List.setIfInBounds_toArray, List.set_cons_zero, List.set_cons_succ]
                  have HX3 := Lib.hid (HX2.out.alloc HX2.out.size (.cells QL.toArray 35))
                  have HC3 := Lib.hid (heap_alloc_new x2 (.cells QL.toArray 35))
                  have HB3 := Lib.hid (own_belowP HB2.out ((Below.refl x2.heap.size x2).alloc (Nat.le_refl _) (.cells QL.toArray 35)))
                  clear HB2
                  obtain ⟨y, hy⟩ : ∃ g, x2.heap.size = g := ⟨_, rfl⟩
                  rw [hy] at HC3 ⊢
                  generalize x2.alloc (.cells QL.toArray 35) = x3 at *
                  clear HX2 hy
                  have hpC := ps_block HC3.out
                  have hpC := hpC p HQA.out
                  obtain ⟨aD, cD, xD, hrD, hoD, hgrD, _⟩ := append_ps x3 w8.heap.size _ _ _ (out.take j) [p] HB3.out hpC (by have := HJM.out; have := HM1.out; have := HLO.out; omega) (by simp) HX3.out.size
                  rw [show [p].length = 1 from rfl] at hrD hoD
                  have hbD := HX3.out.grown hgrD HX3.out.size (fun k e => (HB3.out.lt k e).1)
                  have HRD := Lib.hid hrD
                  have HOD := Lib.hid hoD
                  have HBD := Lib.hid hbD
                  clear hpC hrD hoD hgrD hbD
                  refine wpAnyH_ready (rs := [7]) (by decide +kernel) (by simp) ?_
                  refine AllReadyH.cons rfl (fun K hK => ?_) AllReadyH.nil
                  rw [if_pos (by kernel_rfl)]
                  refine wp_append_at (o := ⟨some 49, _, _, _, _, _⟩) (.tmp 46) (.tmp 48) 27 rfl _ _ rfl rfl _ _ HRD.out ?_
                  refine hK.out _ _ (HS.out _ HBD.out) (fun hHeld => ?_)
                  clear hK K hHeld HRD
                  try simp only [Act.put, List.setIfInBounds_toArray, List.set_cons_zero, List.set_cons_succ]
                  obtain ⟨aE, cE, xE, hrE, hoE, hgrE, _⟩ := append_ps xD w8.heap.size _ _ _ (out.take j ++ [p]) (out.drop j) HOD.out (HPD.out.below HBD.out) (by have := HJM.out; have := HM1.out; have := HLO.out; omega) (by rw [List.length_drop]; have := HM1.out; omega) HBD.out.size
                  rw [HTL.out.2] at hrE hoE
                  have hbE := HBD.out.grown hgrE HBD.out.size (fun k e => (HOD.out.lt k e).1)
                  have HRE := Lib.hid hrE
                  have HOE := Lib.hid hoE
                  have HBE := Lib.hid hbE
                  clear hrE hoE hgrE hbE
                  refine wpAnyH_ready (rs := [11]) (by decide +kernel) (by simp) ?_
                  refine AllReadyH.cons rfl (fun K hK => ?_) AllReadyH.nil
                  rw [if_pos (by kernel_rfl)]
                  refine wp_append_at (o := ⟨some 53, _, _, _, _, _⟩) (.tmp 49) (.tmp 52) 27 rfl _ _ rfl rfl _ _ HRE.out ?_
                  refine hK.out _ _ (HS.out _ HBE.out) (fun hHeld => ?_)
                  clear hK K HRE
                  try simp only [Act.put, List.setIfInBounds_toArray, List.set_cons_zero, List.set_cons_succ]
                  refine wpAnyH_take (i := 12) (oi := ⟨some 3, _, _, _, _, _⟩) (v := ?_) rfl (by kernel_rfl) (by decide +kernel) (by decide +kernel) (fun _ _ _ h => h) (Or.inl ⟨by rfl, ?_⟩) (by assumption) ?_
                  rotate_left 1
                  · (intro w' hSw; go_simp; try with_reducible rfl)
                  try simp only [Act.put, List.setIfInBounds_toArray, List.set_cons_zero, List.set_cons_succ]
                  refine wpAnyH_done (by decide +kernel) ?_ _
                  refine NoPanic.normal ?_
                  go_wp2_with fail
                  go_roundw
                  case rel => exact HFIN.out _ _ _ _ HOE.out HBE.out
                  case measure => simp [intOf]; have := HLT.out; omega
                · rw [if_pos (by kernel_rfl)]
                  refine wp_lit_at (o := ⟨some 48, _, _, _, _, _⟩) _ _ _ rfl #[(0, .agg QL.toArray)] (by simp [Act.eval]) _ _ (HLI.out _) ?_
                  refine hK.out _ _ (HS.out _ (HX1.out.alloc HX1.out.size (.cells QL.toArray 35))) (fun hHeld => ?_)
                  clear hK K hHeld
                  try simp only [Act.put, List.setIfInBounds_toArray, List.set_cons_zero, List.set_cons_succ]
                  have HX2 := Lib.hid (HX1.out.alloc HX1.out.size (.cells QL.toArray 35))
                  have HC2 := Lib.hid (heap_alloc_new x1 (.cells QL.toArray 35))
                  have HA2 := Lib.hid (own_belowP HA1.out ((Below.refl x1.heap.size x1).alloc (Nat.le_refl _) (.cells QL.toArray 35)))
                  have HNE2 := Lib.hid (show gA ≠ x1.heap.size from fun e => by have := (HA1.out.lt gA rfl).2; omega)
                  clear HA1
                  obtain ⟨y, hy⟩ : ∃ g, x1.heap.size = g := ⟨_, rfl⟩
                  rw [hy] at HC2 HNE2 ⊢
                  generalize x1.alloc (.cells QL.toArray 35) = x2 at *
                  clear HX1 hy
                  refine wpAnyH_ready (rs := [4]) (by decide +kernel) (by simp) ?_
                  refine AllReadyH.cons rfl (fun K hK => ?_) AllReadyH.nil
                  obtain ⟨aB, cB, x3, hrB, hoB, hgrB, hblB⟩ := append_ps x2 w8.heap.size 0 _ _ [] (out.take j) HA2.out (HPT.out.below HX2.out) (by omega) (by rw [List.length_take]; have := HJM.out; have := HM1.out; omega) HX2.out.size
                  rw [HTL.out.1, Nat.zero_add] at hrB hoB hblB
                  have hbB := HX2.out.grown hgrB HX2.out.size (fun k e => (HA2.out.lt k e).1)
                  rw [List.nil_append] at hoB
                  have HRB := Lib.hid hrB
                  rw [if_pos (by kernel_rfl)]
                  refine wp_append_at (o := ⟨some 46, _, _, _, _, _⟩) (.tmp 42) (.tmp 45) 27 rfl _ _ rfl rfl _ _ HRB.out ?_
                  refine hK.out _ _ (HS.out _ hbB) (fun hHeld => ?_)
                  clear hK K hHeld
                  try simp only [Act.put, List.setIfInBounds_toArray, List.set_cons_zero, List.set_cons_succ]
                  have HX3 := Lib.hid hbB
                  have HB3 := Lib.hid hoB
                  have HC3 := Lib.hid (show x3.heap[y]? = some (.cells QL.toArray 35 (0, 0)) from (hgrB.block y (Array.getElem?_eq_some_iff.1 HC2.out).1 (fun e => HNE2.out (by injection e with e; exact e.symm))).trans HC2.out)
                  clear HC2
                  clear hrB hoB hgrB hbB hblB HRB HA2 HX2
                  have hpC := ps_block HC3.out
                  have hpC := hpC p HQA.out
                  obtain ⟨aD, cD, xD, hrD, hoD, hgrD, _⟩ := append_ps x3 w8.heap.size _ _ _ (out.take j) [p] HB3.out hpC (by have := HJM.out; have := HM1.out; have := HLO.out; omega) (by simp) HX3.out.size
                  rw [show [p].length = 1 from rfl] at hrD hoD
                  have hbD := HX3.out.grown hgrD HX3.out.size (fun k e => (HB3.out.lt k e).1)
                  have HRD := Lib.hid hrD
                  have HOD := Lib.hid hoD
                  have HBD := Lib.hid hbD
                  clear hpC hrD hoD hgrD hbD
                  refine wpAnyH_ready (rs := [7]) (by decide +kernel) (by simp) ?_
                  refine AllReadyH.cons rfl (fun K hK => ?_) AllReadyH.nil
                  rw [if_pos (by kernel_rfl)]
                  refine wp_append_at (o := ⟨some 49, _, _, _, _, _⟩) (.tmp 46) (.tmp 48) 27 rfl _ _ rfl rfl _ _ HRD.out ?_
                  refine hK.out _ _ (HS.out _ HBD.out) (fun hHeld => ?_)
                  clear hK K hHeld HRD
                  try simp only [Act.put, List.setIfInBounds_toArray, List.set_cons_zero, List.set_cons_succ]
                  obtain ⟨aE, cE, xE, hrE, hoE, hgrE, _⟩ := append_ps xD w8.heap.size _ _ _ (out.take j ++ [p]) (out.drop j) HOD.out (HPD.out.below HBD.out) (by have := HJM.out; have := HM1.out; have := HLO.out; omega) (by rw [List.length_drop]; have := HM1.out; omega) HBD.out.size
                  rw [HTL.out.2] at hrE hoE
                  have hbE := HBD.out.grown hgrE HBD.out.size (fun k e => (HOD.out.lt k e).1)
                  have HRE := Lib.hid hrE
                  have HOE := Lib.hid hoE
                  have HBE := Lib.hid hbE
                  clear hrE hoE hgrE hbE
                  refine wpAnyH_ready (rs := [11]) (by decide +kernel) (by simp) ?_
                  refine AllReadyH.cons rfl (fun K hK => ?_) AllReadyH.nil
                  rw [if_pos (by kernel_rfl)]
                  refine wp_append_at (o := ⟨some 53, _, _, _, _, _⟩) (.tmp 49) (.tmp 52) 27 rfl _ _ rfl rfl _ _ HRE.out ?_
                  refine hK.out _ _ (HS.out _ HBE.out) (fun hHeld => ?_)
                  clear hK K HRE
                  try simp only [Act.put, List.setIfInBounds_toArray, List.set_cons_zero, List.set_cons_succ]
                  refine wpAnyH_take (i := 12) (oi := ⟨some 3, _, _, _, _, _⟩) (v := ?_) rfl (by kernel_rfl) (by decide +kernel) (by decide +kernel) (fun _ _ _ h => h) (Or.inl ⟨by rfl, ?_⟩) (by assumption) ?_
                  rotate_left 1
                  · (intro w' hSw; go_simp; try with_reducible rfl)
                  try simp only [Act.put, List.setIfInBounds_toArray, List.set_cons_zero, List.set_cons_succ]
                  refine wpAnyH_done (by decide +kernel) ?_ _
                  refine NoPanic.normal ?_
                  go_wp2_with fail
                  go_roundw
                  case rel => exact HFIN.out _ _ _ _ HOE.out HBE.out
                  case measure => simp [intOf]; have := HLT.out; omega
              · rw [if_pos (by kernel_rfl)]
                refine wp_lit_at (o := ⟨some 48, _, _, _, _, _⟩) _ _ _ rfl #[(0, .agg QL.toArray)] (by simp [Act.eval]) _ _ (HLI.out _) ?_
                refine hK.out _ _ (HS.out _ (HX0.out.alloc HX0.out.size (.cells QL.toArray 35))) (fun hHeld => ?_)
                clear hK K hHeld
                try simp only [Act.put, List.setIfInBounds_toArray, List.set_cons_zero, List.set_cons_succ]
                have HX1 := Lib.hid (HX0.out.alloc HX0.out.size (.cells QL.toArray 35))
                have HC1 := Lib.hid (heap_alloc_new x0 (.cells QL.toArray 35))
                obtain ⟨y, hy⟩ : ∃ g, x0.heap.size = g := ⟨_, rfl⟩
                rw [hy] at HC1 ⊢
                generalize x0.alloc (.cells QL.toArray 35) = x1 at *
                clear HX0 hy
                refine wpAnyH_ready (rs := [0]) (by decide +kernel) (by simp) ?_
                refine AllReadyH.cons rfl (fun K hK => ?_) AllReadyH.nil
                have hln := lit_noptr x1
                go_simp
                refine hK.out _ _ (HS.out _ (HX1.out.alloc HX1.out.size (.cells #[] 35))) (fun hHeld => ?_)
                clear hK K hln hHeld
                try simp only [Act.put, List.setIfInBounds_toArray, List.set_cons_zero, List.set_cons_succ]
                have HX2 := Lib.hid (HX1.out.alloc HX1.out.size (.cells #[] 35))
                have HA2 := Lib.hid (show (x1.alloc (.cells #[] 35)).ownsRow w8.heap.size 35 34 (.slice (some ⟨x1.heap.size, 0, none⟩) 0 0) 0 (rowsP []) from World.ownsRow_lit (base := w8.heap.size) (e := 35) (size := 34) x1 #[] 0 HX1.out.size (by decide) rfl)
                have HC2 := Lib.hid (show (x1.alloc (.cells #[] 35)).heap[y]? = some (.cells QL.toArray 35 (0, 0)) from (((Below.refl x1.heap.size x1).alloc (Nat.le_refl _) _).block y (Array.getElem?_eq_some_iff.1 HC1.out).1).trans HC1.out)
                have HNE2 := Lib.hid (show x1.heap.size ≠ y by have := (Array.getElem?_eq_some_iff.1 HC1.out).1; omega)
                clear HC1
                obtain ⟨gA, hgA⟩ : ∃ g, x1.heap.size = g := ⟨_, rfl⟩
                rw [hgA] at HA2 HNE2 ⊢
                generalize x1.alloc (.cells #[] 35) = x2 at *
                clear HX1 hgA
                refine wpAnyH_ready (rs := [4]) (by decide +kernel) (by simp) ?_
                refine AllReadyH.cons rfl (fun K hK => ?_) AllReadyH.nil
                obtain ⟨aB, cB, x3, hrB, hoB, hgrB, hblB⟩ := append_ps x2 w8.heap.size 0 _ _ [] (out.take j) HA2.out (HPT.out.below HX2.out) (by omega) (by rw [List.length_take]; have := HJM.out; have := HM1.out; omega) HX2.out.size
                rw [HTL.out.1, Nat.zero_add] at hrB hoB hblB
                have hbB := HX2.out.grown hgrB HX2.out.size (fun k e => (HA2.out.lt k e).1)
                rw [List.nil_append] at hoB
                have HRB := Lib.hid hrB
                rw [if_pos (by kernel_rfl)]
                refine wp_append_at (o := ⟨some 46, _, _, _, _, _⟩) (.tmp 42) (.tmp 45) 27 rfl _ _ rfl rfl _ _ HRB.out ?_
                refine hK.out _ _ (HS.out _ hbB) (fun hHeld => ?_)
                clear hK K hHeld
                try simp only [Act.put, List.setIfInBounds_toArray, List.set_cons_zero, List.set_cons_succ]
                have HX3 := Lib.hid hbB
                have HB3 := Lib.hid hoB
                have HC3 := Lib.hid (show x3.heap[y]? = some (.cells QL.toArray 35 (0, 0)) from (hgrB.block y (Array.getElem?_eq_some_iff.1 HC2.out).1 (fun e => HNE2.out (by injection e with e; exact e.symm))).trans HC2.out)
                clear HC2
                clear hrB hoB hgrB hbB hblB HRB HA2 HX2
                have hpC := ps_block HC3.out
                have hpC := hpC p HQA.out
                obtain ⟨aD, cD, xD, hrD, hoD, hgrD, _⟩ := append_ps x3 w8.heap.size _ _ _ (out.take j) [p] HB3.out hpC (by have := HJM.out; have := HM1.out; have := HLO.out; omega) (by simp) HX3.out.size
                rw [show [p].length = 1 from rfl] at hrD hoD
                have hbD := HX3.out.grown hgrD HX3.out.size (fun k e => (HB3.out.lt k e).1)
                have HRD := Lib.hid hrD
                have HOD := Lib.hid hoD
                have HBD := Lib.hid hbD
                clear hpC hrD hoD hgrD hbD
                refine wpAnyH_ready (rs := [7]) (by decide +kernel) (by simp) ?_
                refine AllReadyH.cons rfl (fun K hK => ?_) AllReadyH.nil
                rw [if_pos (by kernel_rfl)]
                refine wp_append_at (o := ⟨some 49, _, _, _, _, _⟩) (.tmp 46) (.tmp 48) 27 rfl _ _ rfl rfl _ _ HRD.out ?_
                refine hK.out _ _ (HS.out _ HBD.out) (fun hHeld => ?_)
                clear hK K hHeld HRD
                try simp only [Act.put, List.setIfInBounds_toArray, List.set_cons_zero, List.set_cons_succ]
                obtain ⟨aE, cE, xE, hrE, hoE, hgrE, _⟩ := append_ps xD w8.heap.size _ _ _ (out.take j ++ [p]) (out.drop j) HOD.out (HPD.out.below HBD.out) (by have := HJM.out; have := HM1.out; have := HLO.out; omega) (by rw [List.length_drop]; have := HM1.out; omega) HBD.out.size
                rw [HTL.out.2] at hrE hoE
                have hbE := HBD.out.grown hgrE HBD.out.size (fun k e => (HOD.out.lt k e).1)
                have HRE := Lib.hid hrE
                have HOE := Lib.hid hoE
                have HBE := Lib.hid hbE
                clear hrE hoE hgrE hbE
                refine wpAnyH_ready (rs := [11]) (by decide +kernel) (by simp) ?_
                refine AllReadyH.cons rfl (fun K hK => ?_) AllReadyH.nil
                rw [if_pos (by kernel_rfl)]
                refine wp_append_at (o := ⟨some 53, _, _, _, _, _⟩) (.tmp 49) (.tmp 52) 27 rfl _ _ rfl rfl _ _ HRE.out ?_
                refine hK.out _ _ (HS.out _ HBE.out) (fun hHeld => ?_)
                clear hK K HRE
                try simp only [Act.put, List.setIfInBounds_toArray, List.set_cons_zero, List.set_cons_succ]
                refine wpAnyH_take (i := 12) (oi := ⟨some 3, _, _, _, _, _⟩) (v := ?_) rfl (by kernel_rfl) (by decide +kernel) (by decide +kernel) (fun _ _ _ h => h) (Or.inl ⟨by rfl, ?_⟩) (by assumption) ?_
                rotate_left 1
                · (intro w' hSw; go_simp; try with_reducible rfl)
                try simp only [Act.put, List.setIfInBounds_toArray, List.set_cons_zero, List.set_cons_succ]
                refine wpAnyH_done (by decide +kernel) ?_ _
                refine NoPanic.normal ?_
                go_wp2_with fail
                go_roundw
                case rel => exact HFIN.out _ _ _ _ HOE.out HBE.out
                case measure => simp [intOf]; have := HLT.out; omega
        · obtain rfl : j = m := by omega
          have hjn : decide ((j : Int) < (j : Int)) = false := by simp
          have hnone : out[j]? = none := List.getElem?_eq_none (by have := HLO.out; omega)
          have HNOT := Lib.hid (And.intro hless hnone)
          clear hjl hj hless hnone
          go_upto_region 6 with fail
          try simp only [Act.put]
          refine wp_region_below (by kernel_rfl) (by kernel_rfl) ?_
          repeat (first
            | (go_big_quiet_step (fail)))
          refine wpQuiet_nil ?_
          intro _ hw'
          obtain ⟨p0, hw''⟩ := hw'
          subst hw''
          have HB7 := Lib.hid (HBJ.out.trans (p0.bel.mono HBJ.out.size))
          generalize p0.now = w7 at *
          go_upto_region 8 with fail
          try simp only [Act.put]
          refine wp_region_below (by kernel_rfl) (by kernel_rfl) ?_
          repeat (first
            | (go_big_quiet_step (fail)))
          refine wpQuiet_nil ?_
          intro _ hw'
          obtain ⟨p0, hw''⟩ := hw'
          subst hw''
          have HB8 := Lib.hid (HB7.out.trans (p0.bel.mono HB7.out.size))
          generalize p0.now = w8 at *
          obtain ⟨hless, hnone⟩ := HNOT.out
          have hnot : ∀ z, out[j]? = some z → ¬ nuP z < nuP p := fun z hz => by rw [hnone] at hz; cases hz
          have hne : ¬ out[j]? = some p := by rw [hnone]; intro e; cases e
          have hjm : j ≤ j := Nat.le_refl _
          clear hnone hjn
          have HW8 := Lib.hid (HW5.out.trans (HB8.out.mono HW5.out.size))
          have hjm' : j ≤ j := by omega
          have HJM := Lib.hid hjm'
          have HPO8 := Lib.hid (HPO.out.below HB8.out)
          obtain ⟨hs2, hp2⟩ := to_ps w8 ao j co j out HPO8.out hjm' HCAP.out
          obtain ⟨a3, hs3, hp3⟩ := cut_ps w8 ao j co j out HPO8.out hjm' HCAP.out
          generalize (if co = 0 then ao else ao.map (·.add 0)) = a2 at *
          obtain ⟨r, hr⟩ : ∃ r, j - j = r := ⟨_, rfl⟩
          rw [hr] at hs3 hp3
          have HTL := Lib.hid (show (out.take j).length = j ∧ (out.drop j).length = r from ⟨by rw [List.length_take]; have := HLO.out; omega, by rw [List.length_drop, HLO.out]; exact hr⟩)
          clear hr
          have HPT := Lib.hid hp2
          have HPD := Lib.hid hp3
          have HS := Lib.hid (show ∀ W, Below w8.heap.size w8 W → W.rangeAt T 0 QL from fun W b => range_below (range_below HT5.out HB8.out) b)
          have HLI := Lib.hid (fun W => by have h := lit_ptr8 p W; rw [HQA.out] at h; exact h)
          have HFIN := Lib.hid (show ∀ (a : Option Addr) (c k : Nat) (W : World), W.ownsRow w8.heap.size 35 34 (.slice a k c) k (rowsP (out.take j ++ [p] ++ out.drop j)) → Below w8.heap.size w8 W → ∃ (i' : Nat) (a' : Option Addr) (k' c' : Nat), i' ≤ n ∧ (Value.int IntKind.i64 ((i : Int) + 1)) = .int .i64 (i' : Int) ∧ (Value.slice a k c) = .slice a' k' c' ∧ W.ownsRow w.heap.size 35 34 (.slice a' k' c') k' (rowsP (allL (L.take i'))) ∧ Below w.heap.size w W from fun a c k W ho hb => by
            refine ⟨i + 1, a, k, c, HLT.out, by simp, rfl, ?_, HW8.out.trans (hb.mono HW8.out.size)⟩
            have e : allL (L.take (i + 1)) = out.take j ++ [p] ++ out.drop j := by
              rw [List.take_add_one, HXI.out]
              show allL (L.take i ++ [p]) = _
              rw [allL_snoc, HOUT.out, ins8_at out j p hless hnot, if_neg hne]
              simp
            rw [e]
            exact own_low ho HW8.out.size)
          clear hp2 hp3 hjm' hless hnot hne HPO8
          go_upto_region 9 with fail
          try simp only [Act.put]
          refine wp_region_noPanic ?_
          refine wp_region_held_drew (S := fun W => W.rangeAt T 0 QL) (by kernel_rfl) (HS.out w8.drew (Below.refl _ w8).drew) (fun hHeld => ?_)
          refine wpAnyH_take (i := 1) (oi := ⟨some 43, _, _, _, _, _⟩) (v := ?_) rfl (by kernel_rfl) (by decide +kernel) (by decide +kernel) (fun _ _ _ h => h) (Or.inl ⟨by rfl, ?_⟩) (by assumption) ?_
          rotate_left 1
          · (intro w' hSw; go_simp; try with_reducible rfl)
          try simp only [Act.put, List.setIfInBounds_toArray, List.set_cons_zero, List.set_cons_succ]
          refine wpAnyH_take (i := 2) (oi := ⟨some 44, _, _, _, _, _⟩) (v := ?_) rfl (by kernel_rfl) (by decide +kernel) (by decide +kernel) (fun _ _ _ h => h) (Or.inl ⟨by rfl, ?_⟩) (by assumption) ?_
          rotate_left 1
          · (intro w' hSw; go_simp; try with_reducible rfl)
          try simp only [Act.put, List.setIfInBounds_toArray, List.set_cons_zero, List.set_cons_succ]
          refine wpAnyH_take (i := 3) (oi := ⟨some 45, _, _, _, _, _⟩) (v := ?_) rfl (by kernel_rfl) (by decide +kernel) (by decide +kernel) (fun _ _ _ h => h) (Or.inl ⟨by rfl, ?_⟩) (by assumption) ?_
          rotate_left 1
          · (intro w' hSw; go_simp; try with_reducible rfl)
          try simp only [Act.put, List.setIfInBounds_toArray, List.set_cons_zero, List.set_cons_succ]
          refine wpAnyH_take (i := 5) (oi := ⟨some 47, _, _, _, _, _⟩) rfl (by kernel_rfl) (by decide +kernel) (by decide +kernel) (fun _ _ _ h => h) (yieldsIf_load_mid (by rfl) _ _ rfl T 0 rfl QL _ (fun w' h => h) Try.underlying35 rfl SZL.out) (HS.out w8.drew (Below.refl _ w8).drew) ?_
          try simp only [Act.put, List.setIfInBounds_toArray, List.set_cons_zero, List.set_cons_succ]
          refine wpAnyH_take (i := 8) (oi := ⟨some 50, _, _, _, _, _⟩) (v := ?_) rfl (by kernel_rfl) (by decide +kernel) (by decide +kernel) (fun _ _ _ h => h) (Or.inl ⟨by rfl, ?_⟩) (by assumption) ?_
          rotate_left 1
          · (intro w' hSw; go_simp; try with_reducible rfl)
          try simp only [Act.put, List.setIfInBounds_toArray, List.set_cons_zero, List.set_cons_succ]
          refine wpAnyH_take (i := 9) (oi := ⟨some 51, _, _, _, _, _⟩) (v := ?_) rfl (by kernel_rfl) (by decide +kernel) (by decide +kernel) (fun _ _ _ h => h) (Or.inl ⟨by rfl, ?_⟩) (by assumption) ?_
          rotate_left 1
          · (intro w' hSw; go_simp; try with_reducible rfl)
          try simp only [Act.put, List.setIfInBounds_toArray, List.set_cons_zero, List.set_cons_succ]
          refine wpAnyH_take (i := 10) (oi := ⟨some 52, _, _, _, _, _⟩) (v := ?_) rfl (by kernel_rfl) (by decide +kernel) (by decide +kernel) (fun _ _ _ h => h) (Or.inl ⟨by rfl, ?_⟩) (by assumption) ?_
          rotate_left 1
          · (intro w' hSw; go_simp; try with_reducible rfl)
          try simp only [Act.put, List.setIfInBounds_toArray, List.set_cons_zero, List.set_cons_succ]
          have HX0 := Lib.hid (Below.refl w8.heap.size w8).drew
          generalize w8.drew = x0 at *
          refine wpAnyH_ready (rs := [0, 6]) (by decide +kernel) (by simp) ?_
          refine AllReadyH.cons rfl (fun K hK => ?_) (AllReadyH.cons rfl (fun K hK => ?_) AllReadyH.nil)
          · have hln := lit_noptr x0
            go_simp
            refine hK.out _ _ (HS.out _ (HX0.out.alloc HX0.out.size (.cells #[] 35))) (fun hHeld => ?_)
            clear hK K hln hHeld
            try simp only [Act.put, List.setIfInBounds_toArray, List.set_cons_zero, List.set_cons_succ]
            have HX1 := Lib.hid (HX0.out.alloc HX0.out.size (.cells #[] 35))
            have HA1 := Lib.hid (show (x0.alloc (.cells #[] 35)).ownsRow w8.heap.size 35 34 (.slice (some ⟨x0.heap.size, 0, none⟩) 0 0) 0 (rowsP []) from World.ownsRow_lit (base := w8.heap.size) (e := 35) (size := 34) x0 #[] 0 HX0.out.size (by decide) rfl)
            obtain ⟨gA, hgA⟩ : ∃ g, x0.heap.size = g := ⟨_, rfl⟩
            rw [hgA] at HA1 ⊢
            generalize x0.alloc (.cells #[] 35) = x1 at *
            clear HX0 hgA
            refine wpAnyH_ready (rs := [4, 6]) (by decide +kernel) (by simp) ?_
            refine AllReadyH.cons rfl (fun K hK => ?_) (AllReadyH.cons rfl (fun K hK => ?_) AllReadyH.nil)
            · obtain ⟨aB, cB, x2, hrB, hoB, hgrB, hblB⟩ := append_ps x1 w8.heap.size 0 _ _ [] (out.take j) HA1.out (HPT.out.below HX1.out) (by omega) (by rw [List.length_take]; have := HJM.out; have := HM1.out; omega) HX1.out.size
              rw [HTL.out.1, Nat.zero_add] at hrB hoB hblB
              have hbB := HX1.out.grown hgrB HX1.out.size (fun k e => (HA1.out.lt k e).1)
              rw [List.nil_append] at hoB
              have HRB := Lib.hid hrB
              rw [if_pos (by kernel_rfl)]
              refine wp_append_at (o := ⟨some 46, _, _, _, _, _⟩) (.tmp 42) (.tmp 45) 27 rfl _ _ rfl rfl _ _ HRB.out ?_
              refine hK.out _ _ (HS.out _ hbB) (fun hHeld => ?_)
              clear hK K hHeld
              try simp only [Act.put, List.setIfInBounds_toArray, List.set_cons_zero, List.set_cons_succ]
              have HX2 := Lib.hid hbB
              have HB2 := Lib.hid hoB
              clear hrB hoB hgrB hbB hblB HRB HA1 HX1
              refine wpAnyH_ready (rs := [6]) (by decide +kernel) (by simp) ?_
              refine AllReadyH.cons rfl (fun K hK => ?_) AllReadyH.nil
              rw [if_pos (by kernel_rfl)]
              refine wp_lit_at (o := ⟨some 48, _, _, _, _, _⟩) _ _ _ rfl #[(0, .agg QL.toArray)] (by simp [Act.eval]) _ _ (HLI.out _) ?_
              refine hK.out _ _ (HS.out _ (HX2.out.alloc HX2.out.size (.cells QL.toArray 35))) (fun hHeld => ?_)
              clear hK K hHeld
              try simp only [Act.put, List.setIfInBounds_toArray, List.set_cons_zero, List.set_cons_succ]
              have HX3 := Lib.hid (HX2.out.alloc HX2.out.size (.cells QL.toArray 35))
              have HC3 := Lib.hid (heap_alloc_new x2 (.cells QL.toArray 35))
              have HB3 := Lib.hid (own_belowP HB2.out ((Below.refl x2.heap.size x2).alloc (Nat.le_refl _) (.cells QL.toArray 35)))
              clear HB2
              obtain ⟨y, hy⟩ : ∃ g, x2.heap.size = g := ⟨_, rfl⟩
              rw [hy] at HC3 ⊢
              generalize x2.alloc (.cells QL.toArray 35) = x3 at *
              clear HX2 hy
              have hpC := ps_block HC3.out
              have hpC := hpC p HQA.out
              obtain ⟨aD, cD, xD, hrD, hoD, hgrD, _⟩ := append_ps x3 w8.heap.size _ _ _ (out.take j) [p] HB3.out hpC (by have := HJM.out; have := HM1.out; have := HLO.out; omega) (by simp) HX3.out.size
              rw [show [p].length = 1 from rfl] at hrD hoD
              have hbD := HX3.out.grown hgrD HX3.out.size (fun k e => (HB3.out.lt k e).1)
              have HRD := Lib.hid hrD
              have HOD := Lib.hid hoD
              have HBD := Lib.hid hbD
              clear hpC hrD hoD hgrD hbD
              refine wpAnyH_ready (rs := [7]) (by decide +kernel) (by simp) ?_
              refine AllReadyH.cons rfl (fun K hK => ?_) AllReadyH.nil
              rw [if_pos (by kernel_rfl)]
              refine wp_append_at (o := ⟨some 49, _, _, _, _, _⟩) (.tmp 46) (.tmp 48) 27 rfl _ _ rfl rfl _ _ HRD.out ?_
              refine hK.out _ _ (HS.out _ HBD.out) (fun hHeld => ?_)
              clear hK K hHeld HRD
              try simp only [Act.put, List.setIfInBounds_toArray, List.set_cons_zero, List.set_cons_succ]
              obtain ⟨aE, cE, xE, hrE, hoE, hgrE, _⟩ := append_ps xD w8.heap.size _ _ _ (out.take j ++ [p]) (out.drop j) HOD.out (HPD.out.below HBD.out) (by have := HJM.out; have := HM1.out; have := HLO.out; omega) (by rw [List.length_drop]; have := HM1.out; omega) HBD.out.size
              rw [HTL.out.2] at hrE hoE
              have hbE := HBD.out.grown hgrE HBD.out.size (fun k e => (HOD.out.lt k e).1)
              have HRE := Lib.hid hrE
              have HOE := Lib.hid hoE
              have HBE := Lib.hid hbE
              clear hrE hoE hgrE hbE
              refine wpAnyH_ready (rs := [11]) (by decide +kernel) (by simp) ?_
              refine AllReadyH.cons rfl (fun K hK => ?_) AllReadyH.nil
              rw [if_pos (by kernel_rfl)]
              refine wp_append_at (o := ⟨some 53, _, _, _, _, _⟩) (.tmp 49) (.tmp 52) 27 rfl _ _ rfl rfl _ _ HRE.out ?_
              refine hK.out _ _ (HS.out _ HBE.out) (fun hHeld => ?_)
              clear hK K HRE
              try simp only [Act.put, List.setIfInBounds_toArray, List.set_cons_zero, List.set_cons_succ]
              refine wpAnyH_take (i := 12) (oi := ⟨some 3, _, _, _, _, _⟩) (v := ?_) rfl (by kernel_rfl) (by decide +kernel) (by decide +kernel) (fun _ _ _ h => h) (Or.inl ⟨by rfl, ?_⟩) (by assumption) ?_
              rotate_left 1
              · (intro w' hSw; go_simp; try with_reducible rfl)
              try simp only [Act.put, List.setIfInBounds_toArray, List.set_cons_zero, List.set_cons_succ]
              refine wpAnyH_done (by decide +kernel) ?_ _
              refine NoPanic.normal ?_
              go_wp2_with fail
              go_roundw
              case rel => exact HFIN.out _ _ _ _ HOE.out HBE.out
              case measure => simp [intOf]; have := HLT.out; omega
            · rw [if_pos (by kernel_rfl)]
              refine wp_lit_at (o := ⟨some 48, _, _, _, _, _⟩) _ _ _ rfl #[(0, .agg QL.toArray)] (by simp [Act.eval]) _ _ (HLI.out _) ?_
              refine hK.out _ _ (HS.out _ (HX1.out.alloc HX1.out.size (.cells QL.toArray 35))) (fun hHeld => ?_)
              clear hK K hHeld
              try simp only [Act.put, List.setIfInBounds_toArray, List.set_cons_zero, List.set_cons_succ]
              have HX2 := Lib.hid (HX1.out.alloc HX1.out.size (.cells QL.toArray 35))
              have HC2 := Lib.hid (heap_alloc_new x1 (.cells QL.toArray 35))
              have HA2 := Lib.hid (own_belowP HA1.out ((Below.refl x1.heap.size x1).alloc (Nat.le_refl _) (.cells QL.toArray 35)))
              have HNE2 := Lib.hid (show gA ≠ x1.heap.size from fun e => by have := (HA1.out.lt gA rfl).2; omega)
              clear HA1
              obtain ⟨y, hy⟩ : ∃ g, x1.heap.size = g := ⟨_, rfl⟩
              rw [hy] at HC2 HNE2 ⊢
              generalize x1.alloc (.cells QL.toArray 35) = x2 at *
              clear HX1 hy
              refine wpAnyH_ready (rs := [4]) (by decide +kernel) (by simp) ?_
              refine AllReadyH.cons rfl (fun K hK => ?_) AllReadyH.nil
              obtain ⟨aB, cB, x3, hrB, hoB, hgrB, hblB⟩ := append_ps x2 w8.heap.size 0 _ _ [] (out.take j) HA2.out (HPT.out.below HX2.out) (by omega) (by rw [List.length_take]; have := HJM.out; have := HM1.out; omega) HX2.out.size
              rw [HTL.out.1, Nat.zero_add] at hrB hoB hblB
              have hbB := HX2.out.grown hgrB HX2.out.size (fun k e => (HA2.out.lt k e).1)
              rw [List.nil_append] at hoB
              have HRB := Lib.hid hrB
              rw [if_pos (by kernel_rfl)]
              refine wp_append_at (o := ⟨some 46, _, _, _, _, _⟩) (.tmp 42) (.tmp 45) 27 rfl _ _ rfl rfl _ _ HRB.out ?_
              refine hK.out _ _ (HS.out _ hbB) (fun hHeld => ?_)
              clear hK K hHeld
              try simp only [Act.put, List.setIfInBounds_toArray, List.set_cons_zero, List.set_cons_succ]
              have HX3 := Lib.hid hbB
              have HB3 := Lib.hid hoB
              have HC3 := Lib.hid (show x3.heap[y]? = some (.cells QL.toArray 35 (0, 0)) from (hgrB.block y (Array.getElem?_eq_some_iff.1 HC2.out).1 (fun e => HNE2.out (by injection e with e; exact e.symm))).trans HC2.out)
              clear HC2
              clear hrB hoB hgrB hbB hblB HRB HA2 HX2
              have hpC := ps_block HC3.out
              have hpC := hpC p HQA.out
              obtain ⟨aD, cD, xD, hrD, hoD, hgrD, _⟩ := append_ps x3 w8.heap.size _ _ _ (out.take j) [p] HB3.out hpC (by have := HJM.out; have := HM1.out; have := HLO.out; omega) (by simp) HX3.out.size
              rw [show [p].length = 1 from rfl] at hrD hoD
              have hbD := HX3.out.grown hgrD HX3.out.size (fun k e => (HB3.out.lt k e).1)
              have HRD := Lib.hid hrD
              have HOD := Lib.hid hoD
              have HBD := Lib.hid hbD
              clear hpC hrD hoD hgrD hbD
              refine wpAnyH_ready (rs := [7]) (by decide +kernel) (by simp) ?_
              refine AllReadyH.cons rfl (fun K hK => ?_) AllReadyH.nil
              rw [if_pos (by kernel_rfl)]
              refine wp_append_at (o := ⟨some 49, _, _, _, _, _⟩) (.tmp 46) (.tmp 48) 27 rfl _ _ rfl rfl _ _ HRD.out ?_
              refine hK.out _ _ (HS.out _ HBD.out) (fun hHeld => ?_)
              clear hK K hHeld HRD
              try simp only [Act.put, List.setIfInBounds_toArray, List.set_cons_zero, List.set_cons_succ]
              obtain ⟨aE, cE, xE, hrE, hoE, hgrE, _⟩ := append_ps xD w8.heap.size _ _ _ (out.take j ++ [p]) (out.drop j) HOD.out (HPD.out.below HBD.out) (by have := HJM.out; have := HM1.out; have := HLO.out; omega) (by rw [List.length_drop]; have := HM1.out; omega) HBD.out.size
              rw [HTL.out.2] at hrE hoE
              have hbE := HBD.out.grown hgrE HBD.out.size (fun k e => (HOD.out.lt k e).1)
              have HRE := Lib.hid hrE
              have HOE := Lib.hid hoE
              have HBE := Lib.hid hbE
              clear hrE hoE hgrE hbE
              refine wpAnyH_ready (rs := [11]) (by decide +kernel) (by simp) ?_
              refine AllReadyH.cons rfl (fun K hK => ?_) AllReadyH.nil
              rw [if_pos (by kernel_rfl)]
              refine wp_append_at (o := ⟨some 53, _, _, _, _, _⟩) (.tmp 49) (.tmp 52) 27 rfl _ _ rfl rfl _ _ HRE.out ?_
              refine hK.out _ _ (HS.out _ HBE.out) (fun hHeld => ?_)
              clear hK K HRE
              try simp only [Act.put, List.setIfInBounds_toArray, List.set_cons_zero, List.set_cons_succ]
              refine wpAnyH_take (i := 12) (oi := ⟨some 3, _, _, _, _, _⟩) (v := ?_) rfl (by kernel_rfl) (by decide +kernel) (by decide +kernel) (fun _ _ _ h => h) (Or.inl ⟨by rfl, ?_⟩) (by assumption) ?_
              rotate_left 1
              · (intro w' hSw; go_simp; try with_reducible rfl)
              try simp only [Act.put, List.setIfInBounds_toArray, List.set_cons_zero, List.set_cons_succ]
              refine wpAnyH_done (by decide +kernel) ?_ _
              refine NoPanic.normal ?_
              go_wp2_with fail
              go_roundw
              case rel => exact HFIN.out _ _ _ _ HOE.out HBE.out
              case measure => simp [intOf]; have := HLT.out; omega
          · rw [if_pos (by kernel_rfl)]
            refine wp_lit_at (o := ⟨some 48, _, _, _, _, _⟩) _ _ _ rfl #[(0, .agg QL.toArray)] (by simp [Act.eval]) _ _ (HLI.out _) ?_
            refine hK.out _ _ (HS.out _ (HX0.out.alloc HX0.out.size (.cells QL.toArray 35))) (fun hHeld => ?_)
            clear hK K hHeld
            try simp only [Act.put, List.setIfInBounds_toArray, List.set_cons_zero, List.set_cons_succ]
            have HX1 := Lib.hid (HX0.out.alloc HX0.out.size (.cells QL.toArray 35))
            have HC1 := Lib.hid (heap_alloc_new x0 (.cells QL.toArray 35))
            obtain ⟨y, hy⟩ : ∃ g, x0.heap.size = g := ⟨_, rfl⟩
            rw [hy] at HC1 ⊢
            generalize x0.alloc (.cells QL.toArray 35) = x1 at *
            clear HX0 hy
            refine wpAnyH_ready (rs := [0]) (by decide +kernel) (by simp) ?_
            refine AllReadyH.cons rfl (fun K hK => ?_) AllReadyH.nil
            have hln := lit_noptr x1
            go_simp
            refine hK.out _ _ (HS.out _ (HX1.out.alloc HX1.out.size (.cells #[] 35))) (fun hHeld => ?_)
            clear hK K hln hHeld
            try simp only [Act.put, List.setIfInBounds_toArray, List.set_cons_zero, List.set_cons_succ]
            have HX2 := Lib.hid (HX1.out.alloc HX1.out.size (.cells #[] 35))
            have HA2 := Lib.hid (show (x1.alloc (.cells #[] 35)).ownsRow w8.heap.size 35 34 (.slice (some ⟨x1.heap.size, 0, none⟩) 0 0) 0 (rowsP []) from World.ownsRow_lit (base := w8.heap.size) (e := 35) (size := 34) x1 #[] 0 HX1.out.size (by decide) rfl)
            have HC2 := Lib.hid (show (x1.alloc (.cells #[] 35)).heap[y]? = some (.cells QL.toArray 35 (0, 0)) from (((Below.refl x1.heap.size x1).alloc (Nat.le_refl _) _).block y (Array.getElem?_eq_some_iff.1 HC1.out).1).trans HC1.out)
            have HNE2 := Lib.hid (show x1.heap.size ≠ y by have := (Array.getElem?_eq_some_iff.1 HC1.out).1; omega)
            clear HC1
            obtain ⟨gA, hgA⟩ : ∃ g, x1.heap.size = g := ⟨_, rfl⟩
            rw [hgA] at HA2 HNE2 ⊢
            generalize x1.alloc (.cells #[] 35) = x2 at *
            clear HX1 hgA
            refine wpAnyH_ready (rs := [4]) (by decide +kernel) (by simp) ?_
            refine AllReadyH.cons rfl (fun K hK => ?_) AllReadyH.nil
            obtain ⟨aB, cB, x3, hrB, hoB, hgrB, hblB⟩ := append_ps x2 w8.heap.size 0 _ _ [] (out.take j) HA2.out (HPT.out.below HX2.out) (by omega) (by rw [List.length_take]; have := HJM.out; have := HM1.out; omega) HX2.out.size
            rw [HTL.out.1, Nat.zero_add] at hrB hoB hblB
            have hbB := HX2.out.grown hgrB HX2.out.size (fun k e => (HA2.out.lt k e).1)
            rw [List.nil_append] at hoB
            have HRB := Lib.hid hrB
            rw [if_pos (by kernel_rfl)]
            refine wp_append_at (o := ⟨some 46, _, _, _, _, _⟩) (.tmp 42) (.tmp 45) 27 rfl _ _ rfl rfl _ _ HRB.out ?_
            refine hK.out _ _ (HS.out _ hbB) (fun hHeld => ?_)
            clear hK K hHeld
            try simp only [Act.put, List.setIfInBounds_toArray, List.set_cons_zero, List.set_cons_succ]
            have HX3 := Lib.hid hbB
            have HB3 := Lib.hid hoB
            have HC3 := Lib.hid (show x3.heap[y]? = some (.cells QL.toArray 35 (0, 0)) from (hgrB.block y (Array.getElem?_eq_some_iff.1 HC2.out).1 (fun e => HNE2.out (by injection e with e; exact e.symm))).trans HC2.out)
            clear HC2
            clear hrB hoB hgrB hbB hblB HRB HA2 HX2
            have hpC := ps_block HC3.out
            have hpC := hpC p HQA.out
            obtain ⟨aD, cD, xD, hrD, hoD, hgrD, _⟩ := append_ps x3 w8.heap.size _ _ _ (out.take j) [p] HB3.out hpC (by have := HJM.out; have := HM1.out; have := HLO.out; omega) (by simp) HX3.out.size
            rw [show [p].length = 1 from rfl] at hrD hoD
            have hbD := HX3.out.grown hgrD HX3.out.size (fun k e => (HB3.out.lt k e).1)
            have HRD := Lib.hid hrD
            have HOD := Lib.hid hoD
            have HBD := Lib.hid hbD
            clear hpC hrD hoD hgrD hbD
            refine wpAnyH_ready (rs := [7]) (by decide +kernel) (by simp) ?_
            refine AllReadyH.cons rfl (fun K hK => ?_) AllReadyH.nil
            rw [if_pos (by kernel_rfl)]
            refine wp_append_at (o := ⟨some 49, _, _, _, _, _⟩) (.tmp 46) (.tmp 48) 27 rfl _ _ rfl rfl _ _ HRD.out ?_
            refine hK.out _ _ (HS.out _ HBD.out) (fun hHeld => ?_)
            clear hK K hHeld HRD
            try simp only [Act.put, List.setIfInBounds_toArray, List.set_cons_zero, List.set_cons_succ]
            obtain ⟨aE, cE, xE, hrE, hoE, hgrE, _⟩ := append_ps xD w8.heap.size _ _ _ (out.take j ++ [p]) (out.drop j) HOD.out (HPD.out.below HBD.out) (by have := HJM.out; have := HM1.out; have := HLO.out; omega) (by rw [List.length_drop]; have := HM1.out; omega) HBD.out.size
            rw [HTL.out.2] at hrE hoE
            have hbE := HBD.out.grown hgrE HBD.out.size (fun k e => (HOD.out.lt k e).1)
            have HRE := Lib.hid hrE
            have HOE := Lib.hid hoE
            have HBE := Lib.hid hbE
            clear hrE hoE hgrE hbE
            refine wpAnyH_ready (rs := [11]) (by decide +kernel) (by simp) ?_
            refine AllReadyH.cons rfl (fun K hK => ?_) AllReadyH.nil
            rw [if_pos (by kernel_rfl)]
            refine wp_append_at (o := ⟨some 53, _, _, _, _, _⟩) (.tmp 49) (.tmp 52) 27 rfl _ _ rfl rfl _ _ HRE.out ?_
            refine hK.out _ _ (HS.out _ HBE.out) (fun hHeld => ?_)
            clear hK K HRE
            try simp only [Act.put, List.setIfInBounds_toArray, List.set_cons_zero, List.set_cons_succ]
            refine wpAnyH_take (i := 12) (oi := ⟨some 3, _, _, _, _, _⟩) (v := ?_) rfl (by kernel_rfl) (by decide +kernel) (by decide +kernel) (fun _ _ _ h => h) (Or.inl ⟨by rfl, ?_⟩) (by assumption) ?_
            rotate_left 1
            · (intro w' hSw; go_simp; try with_reducible rfl)
            try simp only [Act.put, List.setIfInBounds_toArray, List.set_cons_zero, List.set_cons_succ]
            refine wpAnyH_done (by decide +kernel) ?_ _
            refine NoPanic.normal ?_
            go_wp2_with fail
            go_roundw
            case rel => exact HFIN.out _ _ _ _ HOE.out HBE.out
            case measure => simp [intOf]; have := HLT.out; omega
    · obtain rfl : i = n := by omega
      have hf : L.take i = L := List.take_of_length_le (by have := HNN.out; omega)
      rw [hf] at ho
      have hlo : (allL L).length = m := by
        have h1 := ho.1
        rw [rowsP_length] at h1
        omega
      subst hlo
      have HPO := Lib.hid (ps_own ho)
      clear hf ho hi hlt
      go_wp2_with fail
      go_ret
      exact ⟨_, _, rfl, HPO.out, hB⟩
end Go.Proofs.Ytocdjaenhllemaa
