/-
  'DevLasts' returns true at every input, and each argument reads behind the call as it read before. Conditions: none.
-/
import Derived.Test.YtmfpdbmohebodaaRows
import Derived.Test.YtmfpdbmohebodaaYLaid
import Derived.Test.YtmfpdbmohebodaaPWas
import Derived.Test.YtmfpdbmohebodaaPLost
namespace Go.Proofs.Ytmfpdbmohebodaa.devLasts
open Go.ChangeShapes Go.WideShapes Go.ChangeAt Go.RowKit
set_option linter.unusedVariables false

def MayV (wv : Nat → BitVec 8) (T : Nat → Option Nat) (S : Nat → DataW Unit) (a : Nat) (x : BitVec 8) : Prop := x = wv a ∨ mayB T S a x
theorem run_eql_map {P : Program} (ty k e : TypeId) (hu : P.underlying ty = some (.map k e)) (x y : Operand) (t : Option Nat) (W : World) :
    (do eqGuard .eql ty x y (.map t) (.map none); binOp .eql ty (.map t) (.map none) : Sem Value).run P W = .ok (.bool t.isNone) W := by
  have e1 : (Op.equal ty (.map t) (.map none)).run P W = .ok t.isNone W := by
    show (Op.equalIn (9999 + 1) ty (.map t) (.map none)).run P W = _
    unfold Op.equalIn
    rw [Sem.run_bind, run_underlying hu]
    cases t <;> rfl
  have e2 : eqGuard .eql ty x y (.map t) (.map none) = pure () := rfl
  have e3 : binOp .eql ty (.map t) (.map none) = (do pure (.bool (← Op.equal ty (.map t) (.map none)))) := rfl
  rw [e2, e3]
  simp [e1]
theorem wpList_eql_map {P : Program} {ops : Array Oper} {rest : List Oper} {o : Oper} {a : Act} {w : World} {Q : Exit → Act → World → Prop} (hgd : o.guard = none) (ty k e : TypeId) (x y : Operand) (z : TypeId) (ho : o.op = .binOp .eql ty x y z) (hu : P.underlying ty = some (.map k e))
    (t : Option Nat) (hx : a.eval x = .map t) (hy : a.eval y = .map none) (b : Bool) (hb : t.isNone = b) (h : wpList P ops Q rest (a.put o.dst (.bool b)) w) : wpList P ops Q (o :: rest) a w := by
  subst hb
  refine wpList_plain hgd fun K hK => ?_
  have hr := run_eql_map ty k e hu x y t w
  unfold Oper.wp execOp
  simp only [ho, hx, hy]
  rw [Sem.run_bind, hr]
  exact hK _ _ h

set_option maxRecDepth 100000 in
set_option maxHeartbeats 3200000 in
theorem walk (w : World) (al : Option Addr) (lenl capl : Nat) (l : List (BitVec 8)) (ar : Option Addr) (lenr capr : Nat) (r : List (BitVec 8)) (keep : Nat) (torn : Int) (el : l.length = lenl) (bl : BS w (.slice al lenl capl) (l.map yv)) (ml : lenl ≤ capl) (nl : capl ≤ 140737488351232) (er : r.length = lenr) (br : BS w (.slice ar lenr capr) (r.map yv)) (mr : lenr ≤ capr) (nr : capr ≤ 140737488351232) (hkeep : keep < 18446744073709551616) (htorn0 : -128 ≤ torn) (htorn1 : torn ≤ 127) :
    Calls Try.prog 4 #[.agg (lostCells al lenl capl ar lenr capr keep torn)] w fun e w' => e = .returned (.bool true) ∧ Below w.heap.size w w' := by
  have HPi := Lib.hid (fun (i : Nat) (hi : i < 60) (w0 w : World) K D gl n F ws lim dn h => by have q := po_sector w0 w K D gl n F ws lim dn (BitVec.ofNat 8 (i + 1)) (BitVec.ofNat 8 (i + 1)) h; rw [← yv_small (i + 1) (by omega), show ((i + 1 : Nat) : Int) = (i : Int) + 1 by omega] at q; exact q)
  have HPj := Lib.hid (fun (i : Nat) (hi : i < 60) (w0 w : World) K D gl n F ws lim dn h => by have q := po_sector w0 w K D gl n F ws lim dn (BitVec.ofNat 8 (i + 100)) (BitVec.ofNat 8 (i + 100)) h; rw [← yv_small (i + 100) (by omega), show ((i + 100 : Nat) : Int) = (i : Int) + 100 by omega] at q; exact q)
  have HYi := Lib.hid (fun (i : Nat) (hi : i < 60) => show (i : Int) + 1 = yv (BitVec.ofNat 8 (i + 1)) by rw [← yv_small (i + 1) (by omega)]; omega)
  have HYj := Lib.hid (fun (i : Nat) (hi : i < 60) => show (i : Int) + 100 = yv (BitVec.ofNat 8 (i + 100)) by rw [← yv_small (i + 100) (by omega)]; omega)
  have HLZ := Lib.hid lay_zero
  have HNW := Lib.hid (fun w1 hb => po_new w w1 16 hb (by decide) (by decide))
  generalize zeroY (16 * 512) = Z at *
  have HBl := Lib.hid bl
  have HEl := Lib.hid el
  have HBr := Lib.hid br
  have HEr := Lib.hid er
  have HKP := Lib.hid hkeep
  have lI : (lenl : Int) ≤ 140737488351232 := by omega
  have rI : (lenr : Int) ≤ 140737488351232 := by omega
  clear bl el br er ml mr hkeep
  go_enter Try.func4, Try.ntmps4
  go_wp2_with fail
  have hA0 := heap_alloc_new w (.cells (lostCells al lenl capl ar lenr capr keep torn) 53)
  have hB0 := (Below.refl w.heap.size w).alloc (Nat.le_refl _) (.cells (lostCells al lenl capl ar lenr capr keep torn) 53)
  refine (alive6_any _).mono ?_
  rintro e w1 ⟨rfl, hb1⟩
  have hA1 := (hb1.block w.heap.size (by simp)).trans hA0
  have HB1 := Lib.hid (hB0.trans (hb1.mono hB0.size))
  obtain ⟨c0, c1, c2, c3⟩ := lost_at hA1
  clear hA0 hB0 hb1 hA1
  go_wp2_with fail
  go_quiet (fail)
  clear c0 c1 c2 c3
  generalize hW2 : w1.drewN _ = W2
  have HB2 := Lib.hid (show Below w.heap.size w W2 by rw [← hW2]; exact ybelow_drewN HB1.out _)
  clear hW2
  have HN := Lib.hid (HNW.out W2 HB2.out)
  by_cases hbig : 60 < lenl
  · have h3 : (60 : Int) < (lenl : Int) := by omega
    go_wp2_with fail
    go_ret
    exact ⟨rfl, HB2.out⟩
  have h3 : decide ((60 : Int) < (lenl : Int)) = false := by simp; omega
  have HLEl := Lib.hid (show lenl ≤ 60 by omega)
  clear hbig
  by_cases hbig : 60 < lenr
  · have h4 : (60 : Int) < (lenr : Int) := by omega
    go_wp2_with fail
    go_ret
    exact ⟨rfl, HB2.out⟩
  have h4 : decide ((60 : Int) < (lenr : Int)) = false := by simp; omega
  have HLEr := Lib.hid (show lenr ≤ 60 by omega)
  clear hbig
  go_wp2_with fail
  refine HN.out.mono ?_
  rintro e w2 ⟨rfl, hP2, _⟩
  have HP2 := Lib.hid hP2
  generalize W2.heap.size + 2 = D at *
  generalize W2.heap.size = gl at *
  clear hP2 HN h3 h4 HNW
  have hmm : ∀ W : World, (Instr.makeMap 54 none).run Try.prog W = .ok (.map (some W.heap.size)) (W.alloc (.map #[] 0)) := fun W => run_makeMap _ W
  have hbm : Below w2.heap.size w2 (w2.alloc (.map #[] 0)) := (Below.refl _ _).alloc (Nat.le_refl _) _
  have HPm := Lib.hid (HP2.out.add hbm w2.heap.size (Nat.le_refl _) (by simp))
  have HWm := Lib.hid (was_made w2)
  have HWB := Lib.hid (HP2.out.bel.size)
  clear hbm HP2
  go_upto_region 11 with fail
  generalize w2.alloc (.map #[] 0) = w3 at *
  generalize w2.heap.size = wb at *
  clear hmm
  go_loopw [49] (fun v49 wr => ∃ i : Nat, i ≤ lenl ∧ v49 = .int .i64 (i : Nat) ∧ ∃ (K : List Nat) (ws : List (Nat × List (BitVec 8))) (wv : Nat → BitVec 8), PO w wr K D gl 16 Z ws (-1) false ∧ wb ∈ K ∧ ws.length ≤ i ∧ WasR wr wb i wv ∧ LayR (flushM Z ws) wv) (fun v _ => lenl - (intOf v).toNat)
  case atStart => exact ⟨0, by omega, rfl, _, [], _, HPm.out, by simp, by simp, HWm.out, HLZ.out⟩
  case round =>
    obtain ⟨i, hi, rfl, K, ws, wv, hP, hwK, hws, hW, hL⟩ := hrel
    by_cases hlt : i < lenl
    · obtain ⟨g0, o0, rfl, _, hc⟩ := (HBl.out.kept hP.bel).cellY HEl.out hlt
      obtain ⟨m, hm⟩ : ∃ m : Nat, (l.getD i 0).toNat = m := ⟨_, rfl⟩
      have hmy : yv (l.getD i 0) = (m : Int) := by rw [yv_nat, hm]
      rw [hmy] at hc
      obtain ⟨q, hq⟩ : ∃ q : Nat, m % 16 = q := ⟨_, rfl⟩
      have mI : (m : Int) < 256 := by have := (l.getD i 0).isLt; omega
      have hqI : (m : Int) % 16 = (q : Int) := by omega
      have HQ := Lib.hid (show q < 16 by omega)
      have qI : (q : Int) < 16 := by omega
      have m0I : (0 : Int) ≤ (m : Int) := by omega
      have q0I : (0 : Int) ≤ (q : Int) := by omega
      have iI : (i : Int) < (lenl : Int) := by omega
      have i0 : (0 : Int) ≤ (i : Int) := by omega
      have i6 : (i : Int) < 60 := by have := HLEl.out; omega
      have HWS := Lib.hid hws
      have HLT := Lib.hid hlt
      have HIL := Lib.hid (show i < 60 by have := HLEl.out; omega)
      have HWK := Lib.hid hwK
      have HWR := Lib.hid hW
      have HLR := Lib.hid hL
      have HSC := Lib.hid (HPi.out i HIL.out _ _ _ _ _ _ _ _ _ _ hP)
      have HWLT := Lib.hid hW.lt
      clear hP hi hlt hws hm hmy hq hwK hW hL
      go_wp2_with fail
      refine HSC.out.mono ?_
      rintro e w8 ⟨rfl, hA8, hP8, hb8⟩
      have HW8 := Lib.hid (HWR.out.keep (hb8.block wb HWLT.out))
      have HC := Lib.hid (po_write w w8 _ D gl 16 q _ 512 Z _ _ hP8 HQ.out hA8 (secB_length _ _) (by have := HWS.out; have := HIL.out; omega))
      clear hA8 hP8 hb8 HSC HWR
      generalize wr.heap.size = X8 at *
      go_wp2_with fail
      refine HC.out.mono ?_
      rintro e w9 ⟨rfl, hP9, hS9⟩
      obtain ⟨wu, hup, hWu, hTu⟩ := was_put (HW8.out.keep (hS9 wb (List.mem_cons_of_mem _ HWK.out))) (by have := HIL.out; omega) q HQ.out (BitVec.ofNat 8 (i + 1))
      rw [← HYi.out i HIL.out] at hup
      have HPu := Lib.hid (hP9.touch hTu (fun k hk => by
        simp only [List.mem_cons, List.not_mem_nil, or_false] at hk
        subst hk
        exact ⟨List.mem_cons_of_mem _ HWK.out, HWB.out⟩))
      have HWu := Lib.hid hWu
      have HLu := Lib.hid (show LayR (flushM Z (ws ++ [(q, secB (BitVec.ofNat 8 (i + 1)) (BitVec.ofNat 8 (i + 1)))])) _ by rw [flushM_more]; exact lay_put HLR.out q HQ.out _)
      clear hP9 hS9 hWu hTu HC HW8 HLR
      go_wp2_with fail
      clear hup
      go_roundw
      case rel => exact ⟨i + 1, by have := HLT.out; omega, by go_num, _, _, _, HPu.out, List.mem_cons_of_mem _ HWK.out, by have := HWS.out; simp; omega, HWu.out, HLu.out⟩
      case measure => simp [intOf]; have := HLT.out; omega
    · have hbv : decide (i < lenl) = false := by simp; omega
      have HF := Lib.hid (po_flush w wr _ D gl 16 _ _ hP (by have := HLEl.out; omega))
      have HWK := Lib.hid hwK
      have HWR := Lib.hid hW
      have HLR := Lib.hid hL
      have HIC := Lib.hid (show i ≤ 60 by have := HLEl.out; omega)
      clear hP hi hlt hws hwK hW hL
      go_wp2_with fail
      refine HF.out.mono ?_
      rintro e w4 ⟨rfl, hP4, hS4⟩
      generalize flushM Z ws = F1 at *
      have HW4 := Lib.hid (HWR.out.keep (hS4 wb HWK.out))
      have hmm : ∀ W : World, (Instr.makeMap 56 none).run Try.prog W = .ok (.map (some W.heap.size)) (W.alloc (.map #[] 0)) := fun W => run_makeMap _ W
      have hbm : Below w4.heap.size w4 (w4.alloc (.map #[] 0)) := (Below.refl _ _).alloc (Nat.le_refl _) _
      have HPm := Lib.hid (hP4.add hbm w4.heap.size (Nat.le_refl _) (by simp))
      have HW5 := Lib.hid (HW4.out.keep (hbm.block wb HW4.out.lt))
      have HMm := Lib.hid (may_made w4 w.heap.size (w4.heap.size :: K))
      have HMB := Lib.hid (hP4.bel.size)
      have HNE := Lib.hid (show wb ≠ w4.heap.size by have := HW4.out.lt; omega)
      clear hbm hP4 hS4 HF HWR HW4
      go_upto_region 20 with fail
      generalize w4.alloc (.map #[] 0) = w5 at *
      generalize w4.heap.size = mb at *
      clear hmm
      generalize hic : i = ic at *
      clear hic
      go_loopw [80] (fun v80 wr => ∃ i : Nat, i ≤ lenr ∧ v80 = .int .i64 (i : Nat) ∧ ∃ (K : List Nat) (ws : List (Nat × List (BitVec 8))) (T : Nat → Option Nat) (S : Nat → DataW Unit) (c : Nat), PO w wr K D gl 16 F1 ws (-1) false ∧ wb ∈ K ∧ mb ∈ K ∧ ws.length ≤ i ∧ WasR wr wb ic wv ∧ MayR wr w.heap.size K mb c T S ∧ c ≤ 2 * i ∧ (∀ a b, a < 16 → T a = some b → b ≠ wb) ∧ ∀ p ∈ ws, p.1 < 16 ∧ p.2.length = 512 ∧ ∀ k, k < 512 → mayB T S p.1 (p.2.getD k 0)) (fun v _ => lenr - (intOf v).toNat)
      case atStart => exact ⟨0, by omega, rfl, _, [], _, _, 0, HPm.out, List.mem_cons_of_mem _ HWK.out, by simp, by simp, HW5.out, HMm.out, by omega, fun a b _ h => (by simp at h), fun p hp => (by cases hp)⟩
      case round =>
        obtain ⟨i, hi, rfl, K2, ws, T, S, c, hP, hwK, hmK, hws, hW, hM, hcc, hne, hall⟩ := hrel
        by_cases hlt : i < lenr
        · obtain ⟨g0, o0, rfl, _, hc⟩ := (HBr.out.kept hP.bel).cellY HEr.out hlt
          obtain ⟨m, hm⟩ : ∃ m : Nat, (r.getD i 0).toNat = m := ⟨_, rfl⟩
          have hmy : yv (r.getD i 0) = (m : Int) := by rw [yv_nat, hm]
          rw [hmy] at hc
          obtain ⟨q, hq⟩ : ∃ q : Nat, m % 16 = q := ⟨_, rfl⟩
          have mI : (m : Int) < 256 := by have := (r.getD i 0).isLt; omega
          have hqI : (m : Int) % 16 = (q : Int) := by omega
          have HQ := Lib.hid (show q < 16 by omega)
          have qI : (q : Int) < 16 := by omega
          have m0I : (0 : Int) ≤ (m : Int) := by omega
          have q0I : (0 : Int) ≤ (q : Int) := by omega
          have iI : (i : Int) < (lenr : Int) := by omega
          have i0 : (0 : Int) ≤ (i : Int) := by omega
          have i6 : (i : Int) < 60 := by have := HLEr.out; omega
          have HWS := Lib.hid hws
          have HLT := Lib.hid hlt
          have HIL := Lib.hid (show i < 60 by have := HLEr.out; omega)
          have HWK2 := Lib.hid hwK
          have HMK := Lib.hid hmK
          have HWR := Lib.hid hW
          have HMR := Lib.hid hM
          have HCC := Lib.hid hcc
          have HNB := Lib.hid hne
          have HAL := Lib.hid hall
          have HSC := Lib.hid (HPj.out i HIL.out _ _ _ _ _ _ _ _ _ _ hP)
          have HKL := Lib.hid (show ∀ k ∈ K2, k < wr.heap.size from by obtain ⟨_, _, _, _, hk, _⟩ := hP; exact hk)
          clear hP hi hlt hws hm hmy hq hwK hmK hW hM hcc hne hall
          go_wp2_with fail
          refine HSC.out.mono ?_
          rintro e w8 ⟨rfl, hA8, hP8, hb8⟩
          have HW8 := Lib.hid (HWR.out.keep (hb8.block wb HWR.out.lt))
          have HM8 := Lib.hid (HMR.out.stay (fun k hk => hb8.block k (HKL.out k hk)) HMK.out)
          have HC := Lib.hid (po_write w w8 _ D gl 16 q _ 512 F1 _ _ hP8 HQ.out hA8 (secB_length _ _) (by have := HWS.out; have := HIL.out; omega))
          clear hA8 hP8 hb8 HSC HWR HMR HKL
          generalize wr.heap.size = X8 at *
          go_wp2_with fail
          refine HC.out.mono ?_
          rintro e w9 ⟨rfl, hP9, hS9⟩
          have HP9 := Lib.hid hP9
          have HW9 := Lib.hid (HW8.out.keep (hS9 wb (List.mem_cons_of_mem _ HWK2.out)))
          have HM9 := Lib.hid ((HM8.out.more (K' := X8 :: K2) (fun k hk => List.mem_cons_of_mem _ hk)).stay hS9 (List.mem_cons_of_mem _ HMK.out))
          have HKL := Lib.hid (show ∀ k ∈ X8 :: K2, k < w9.heap.size from by obtain ⟨_, _, _, _, hk, _⟩ := hP9; exact hk)
          have HSZ := Lib.hid (hP9.bel.size)
          have hlk := may_look HM9.out q HQ.out
          clear hP9 hS9 HC HW8 HM8
          have HXX := Lib.hid (show secB (BitVec.ofNat 8 (i + 100)) (BitVec.ofNat 8 (i + 100)) = secB (BitVec.ofNat 8 (i + 100)) (BitVec.ofNat 8 (i + 100)) from rfl)
          have HYJ := Lib.hid (HYj.out i HIL.out)
          generalize BitVec.ofNat 8 (i + 100) = xj at *
          cases hT : T q with
          | some b =>
            rw [hT] at hlk
            obtain ⟨wu, hup, hMu, hTu⟩ := may_put HM9.out (by have := HCC.out; have := HIL.out; omega) q b HQ.out hT xj
            rw [← HYJ.out] at hup
            obtain ⟨q1, q2, q3, _, q5⟩ := HM9.out.inn q b HQ.out hT
            have HPu := Lib.hid (HP9.out.touch hTu (fun k hk => by
              simp only [List.mem_cons, List.not_mem_nil, or_false] at hk
              subst hk
              exact ⟨q1, q3⟩))
            have HWu := Lib.hid (HW9.out.keep (hTu.block wb HW9.out.lt (by simp only [List.mem_cons, List.not_mem_nil, or_false]; exact Ne.symm (HNB.out q b HQ.out hT))))
            have HMu := Lib.hid hMu
            have HALu := Lib.hid (show ∀ p ∈ ws ++ [(q, secB xj xj)], p.1 < 16 ∧ p.2.length = 512 ∧ ∀ k, k < 512 → mayB T (fun j => if j = q then (S q).put (.int .u8 (yv xj)) (.lit (.bool true)) else S j) p.1 (p.2.getD k 0) from fun p hp => by
              rcases List.mem_append.1 hp with hp | hp
              · obtain ⟨r1, r2, r3⟩ := HAL.out p hp
                exact ⟨r1, r2, fun k hk => mayB_put q5 (r3 k hk)⟩
              · simp only [List.mem_cons, List.not_mem_nil, or_false] at hp
                subst hp
                exact ⟨HQ.out, secB_length _ _, fun k hk => by rw [secB_all _ _ hk]; exact mayB_it q5 hT⟩)
            clear hMu hTu hT q1 q2 q3 q5 HP9 HW9 HM9 HAL HKL
            go_wp2_with (first
              | (with_reducible refine wpList_eql_map (o := ⟨some 102, _, _, _, _, _⟩) rfl 57 5 4 _ _ _ rfl Try.underlying57 (some b) rfl rfl false rfl ?_))
            clear hup hlk
            go_roundw
            case rel => exact ⟨i + 1, by have := HLT.out; omega, by go_num, _, _, _, _, _, HPu.out, List.mem_cons_of_mem _ HWK2.out, List.mem_cons_of_mem _ HMK.out, by have := HWS.out; simp; omega, HWu.out, HMu.out, by have := HCC.out; omega, HNB.out, HALu.out⟩
            case measure => simp [intOf]; have := HLT.out; omega
          | none =>
            rw [hT] at hlk
            have hmm : ∀ W : World, (Instr.makeMap 57 none).run Try.prog W = .ok (.map (some W.heap.size)) (W.alloc (.map #[] 0)) := fun W => run_makeMap _ W
            obtain ⟨wt, hup1, hMt, hTt, hlt9⟩ := may_new HM9.out HSZ.out HKL.out (by have := HCC.out; have := HIL.out; omega) q HQ.out
            have hP10 := HP9.out.grow hTt (fun k hk => by
              simp only [List.mem_cons, List.not_mem_nil, or_false] at hk
              subst hk
              exact ⟨List.mem_cons_of_mem _ HMK.out, HMB.out⟩) w9.heap.size (Nat.le_refl _) hlt9
            have hW10 := HW9.out.keep (hTt.block wb HW9.out.lt (by simp only [List.mem_cons, List.not_mem_nil, or_false]; exact HNE.out))
            have hlk2 := may_look hMt q HQ.out
            rw [if_pos rfl] at hlk2
            obtain ⟨wu, hup2, hMu, hTu⟩ := may_put hMt (by have := HCC.out; have := HIL.out; omega) q w9.heap.size HQ.out (if_pos rfl) xj
            rw [← HYJ.out] at hup2
            have HPu := Lib.hid (hP10.touch hTu (fun k hk => by
              simp only [List.mem_cons, List.not_mem_nil, or_false] at hk
              subst hk
              exact ⟨by simp, HSZ.out⟩))
            have HWu := Lib.hid (hW10.keep (hTu.block wb hW10.lt (by simp only [List.mem_cons, List.not_mem_nil, or_false]; have := HW9.out.lt; omega)))
            have HMu := Lib.hid hMu
            have HNBu := Lib.hid (show ∀ a b, a < 16 → (if a = q then some w9.heap.size else T a) = some b → b ≠ wb from fun a b ha hb => by
              by_cases e : a = q
              · rw [if_pos e] at hb
                injection hb with hb
                have := HW9.out.lt
                omega
              · rw [if_neg e] at hb
                exact HNB.out a b ha hb)
            have HALu := Lib.hid (show ∀ p ∈ ws ++ [(q, secB xj xj)], p.1 < 16 ∧ p.2.length = 512 ∧ ∀ k, k < 512 → mayB (fun j => if j = q then some w9.heap.size else T j) (fun j => if j = q then ((fun j => if j = q then DataW.map [] else S j) q).put (.int .u8 (yv xj)) (.lit (.bool true)) else (fun j => if j = q then DataW.map [] else S j) j) p.1 (p.2.getD k 0) from fun p hp => by
              have hS : Maps.IsMap ((fun j => if j = q then (DataW.map [] : DataW Unit) else S j) q) := by dsimp only; rw [if_pos rfl]; exact Maps.isMap_empty
              rcases List.mem_append.1 hp with hp | hp
              · obtain ⟨r1, r2, r3⟩ := HAL.out p hp
                exact ⟨r1, r2, fun k hk => mayB_put hS (mayB_new hT (r3 k hk))⟩
              · simp only [List.mem_cons, List.not_mem_nil, or_false] at hp
                subst hp
                exact ⟨HQ.out, secB_length _ _, fun k hk => by rw [secB_all _ _ hk]; exact mayB_it hS (if_pos rfl)⟩)
            clear hMt hTt hlt9 hP10 hW10 hMu hTu hT HP9 HW9 HM9 HAL HKL
            go_wp2_with (first
              | (with_reducible refine wpList_eql_map (o := ⟨some 102, _, _, _, _, _⟩) rfl 57 5 4 _ _ _ rfl Try.underlying57 none rfl rfl true rfl ?_))
            clear hup1 hup2 hlk hlk2 hmm
            go_roundw
            case rel => exact ⟨i + 1, by have := HLT.out; omega, by go_num, _, _, _, _, _, HPu.out, List.mem_cons_of_mem _ (List.mem_cons_of_mem _ HWK2.out), List.mem_cons_of_mem _ (List.mem_cons_of_mem _ HMK.out), by have := HWS.out; simp; omega, HWu.out, HMu.out, by have := HCC.out; omega, HNBu.out, HALu.out⟩
            case measure => simp [intOf]; have := HLT.out; omega
        · have hbv : decide (i < lenr) = false := by simp; omega
          have HC := Lib.hid (po_crash w wr _ D gl 16 keep torn _ _ _ _ hP (by have := HLEr.out; omega) HKP.out)
          have HWK2 := Lib.hid hwK
          have HMK := Lib.hid hmK
          have HWR := Lib.hid hW
          have HMR := Lib.hid hM
          have HGD := Lib.hid (good_crash (M := MayV wv T S) keep torn (lay_good HLR.out _ (fun a _ => .inl rfl)) (fun p hp => by obtain ⟨r1, r2, r3⟩ := hall p hp; exact ⟨r1, r2, fun k hk => .inr (r3 k hk)⟩) ws.length (Nat.le_refl _))
          clear hP hi hlt hws hwK hmK hW hM hcc hne hall
          go_wp2_with fail
          refine HC.out.mono ?_
          rintro e w6 ⟨rfl, hP6, hS6⟩
          generalize crashM keep torn F1 ws ws.length = F2 at *
          have HP6 := Lib.hid hP6
          have HW6 := Lib.hid (HWR.out.keep (hS6 wb HWK2.out))
          have HM6 := Lib.hid (HMR.out.stay hS6 HMK.out)
          have HKL := Lib.hid (show ∀ k ∈ K2, k < w6.heap.size from by obtain ⟨_, _, _, _, hk, _⟩ := hP6; exact hk)
          clear hP6 hS6 HC HWR HMR
          go_wp2_with fail
          go_loopw [122] (fun v122 wr => ∃ a : Nat, a ≤ 16 ∧ v122 = .int .u32 (a : Nat) ∧ ∃ K, PO w wr K D gl 16 F2 [] (-1) false ∧ Below w6.heap.size w6 wr) (fun v _ => 16 - (intOf v).toNat)
          case atStart => exact ⟨0, by omega, rfl, _, HP6.out, Below.refl _ _⟩
          case round =>
            obtain ⟨a, ha, rfl, K3, hP, hB⟩ := hrel
            by_cases hlt : a < 16
            · have aI : (a : Int) < 16 := by omega
              have a0 : (0 : Int) ≤ (a : Int) := by omega
              have HLT := Lib.hid hlt
              have HBB := Lib.hid hB
              have HR := Lib.hid (po_read w wr _ D gl 16 a _ _ _ hP hlt)
              clear hP ha hlt hB
              go_wp2_with fail
              refine HR.out.mono ?_
              rintro e w7 ⟨⟨rfl, hA7, hl7, hb7⟩, hP7⟩
              have hA7 : ArrY w7 wr.heap.size 74 (secY F2 a) := hA7
              have hl7 : (secY F2 a).length = 512 := hl7
              have HA7 := Lib.hid hA7
              have HL7 := Lib.hid hl7
              have HB7 := Lib.hid (HBB.out.trans (hb7.mono HBB.out.size))
              have HK := Lib.hid (po_peek w w7 _ D gl 16 a _ _ _ _ hP7 HLT.out)
              clear hA7 hl7 hb7 hP7 HR HBB
              generalize wr.heap.size = X at *
              go_wp2_with fail
              refine HK.out.mono ?_
              rintro e w8 ⟨⟨rfl, hA8, _, hb8⟩, hP8⟩
              have hX8 := HA7.out.below hb8 (zlt HA7.out)
              have HSE := Lib.hid (same_eq w8 _ _ _ (BS.of_arr0 (n := 512) (cap := 512) hX8 HL7.out) (BS.of_arr0 (n := 512) (cap := 512) hA8 HL7.out))
              have hb := HB7.out.trans (hb8.mono HB7.out.size)
              have HB8 := Lib.hid hb
              have HP8 := Lib.hid hP8
              have hg0 := HGD.out.2 a HLT.out 0 (by decide)
              have hg5 := HGD.out.2 a HLT.out 511 (by decide)
              have hs0 := hX8.cell (k := 0) (by rw [HL7.out]; decide)
              have hs5 := hX8.cell (k := 511) (by rw [HL7.out]; decide)
              generalize (secY F2 a).getD 0 0 = x0 at *
              generalize (secY F2 a).getD 511 0 = x5 at *
              have HG0 := Lib.hid hg0
              have HG5 := Lib.hid hg5
              have hw8 := HW6.out.keep (hb.block wb HW6.out.lt)
              have hm8 := HM6.out.stay (fun k hk => hb.block k (HKL.out k hk)) HMK.out
              have HWL := Lib.hid (was_look hw8 a HLT.out)
              have HML := Lib.hid (may_look hm8 a HLT.out)
              have HMY := Lib.hid (fun x hx => may_yes hm8 a HLT.out x hx)
              have HSS := Lib.hid (show w8.drew.cell? ⟨X, 0, none⟩ = some (.int .u8 (yv x0)) ∧ w8.drew.cell? ⟨X, 511, none⟩ = some (.int .u8 (yv x5)) from ⟨hs0, hs5⟩)
              clear hA8 hb8 hP8 hX8 hb hg0 hg5 hs0 hs5 hw8 hm8 HK HA7
              generalize w7.heap.size = Y at *
              go_wp2_with fail
              refine HSE.out.mono ?_
              rintro e w9 ⟨rfl, rfl⟩
              clear HSE
              go_upto_region 35 with fail
              try simp only [Act.put]
              refine wp_region_noPanic ?_
              refine wp_region_held_drew (S := fun W => W.cell? ⟨X, 0, none⟩ = some (.int .u8 (yv x0)) ∧ W.cell? ⟨X, 511, none⟩ = some (.int .u8 (yv x5))) (by kernel_rfl) HSS.out (fun hHeld => ?_)
              refine wpAnyH_take (i := 0) (oi := ⟨some 149, _, _, _, _, _⟩) (v := ?_) rfl (by kernel_rfl) (by decide +kernel) (by decide +kernel) (fun _ _ _ h => h) (Or.inl ⟨by rfl, ?_⟩) (by assumption) ?_
              rotate_left 1
              · (intro w' hSw; go_simp; try with_reducible rfl)
              try simp only [Act.put, List.setIfInBounds_toArray, List.set_cons_zero, List.set_cons_succ]
              refine wpAnyH_take (i := 1) (oi := ⟨some 150, _, _, _, _, _⟩) (v := ?_) rfl (by kernel_rfl) (by decide +kernel) (by decide +kernel) (fun _ _ _ h => h) (Or.inl ⟨by rfl, ?_⟩) (by assumption) ?_
              rotate_left 1
              · (intro w' hSw; go_simp; try with_reducible rfl)
              try simp only [Act.put, List.setIfInBounds_toArray, List.set_cons_zero, List.set_cons_succ]
              refine wpAnyH_take (i := 2) (oi := ⟨some 151, _, _, _, _, _⟩) (v := ?_) rfl (by kernel_rfl) (by decide +kernel) (by decide +kernel) (fun _ _ _ h => h) (Or.inl ⟨by rfl, ?_⟩) (by assumption) ?_
              rotate_left 1
              · (intro w' hSw; have hcell := hSw.1; clear hSw; go_simp; try with_reducible rfl)
              try simp only [Act.put, List.setIfInBounds_toArray, List.set_cons_zero, List.set_cons_succ]
              refine wpAnyH_take (i := 3) (oi := ⟨some 152, _, _, _, _, _⟩) (v := ?_) rfl (by kernel_rfl) (by decide +kernel) (by decide +kernel) (fun _ _ _ h => h) (Or.inl ⟨by rfl, ?_⟩) (by assumption) ?_
              rotate_left 1
              · (intro w' hSw; go_simp; try with_reducible rfl)
              try simp only [Act.put, List.setIfInBounds_toArray, List.set_cons_zero, List.set_cons_succ]
              refine wpAnyH_take (i := 4) (oi := ⟨some 153, _, _, _, _, _⟩) (v := ?_) rfl (by kernel_rfl) (by decide +kernel) (by decide +kernel) (fun _ _ _ h => h) (Or.inl ⟨by rfl, ?_⟩) (by assumption) ?_
              rotate_left 1
              · (intro w' hSw; go_simp; try with_reducible rfl)
              try simp only [Act.put, List.setIfInBounds_toArray, List.set_cons_zero, List.set_cons_succ]
              refine wpAnyH_take (i := 5) (oi := ⟨some 154, _, _, _, _, _⟩) (v := ?_) rfl (by kernel_rfl) (by decide +kernel) (by decide +kernel) (fun _ _ _ h => h) (Or.inl ⟨by rfl, ?_⟩) (by assumption) ?_
              rotate_left 1
              · (intro w' hSw; have hcell := hSw.2; clear hSw; go_simp; try with_reducible rfl)
              try simp only [Act.put, List.setIfInBounds_toArray, List.set_cons_zero, List.set_cons_succ]
              refine wpAnyH_take (i := 6) (oi := ⟨some 155, _, _, _, _, _⟩) rfl (by kernel_rfl) (by decide +kernel) (by decide +kernel) (fun _ _ _ h => h) (yieldsIf_build (by rfl) _ _ rfl #[(0, .int .u8 (yv x0)), (1, .int .u8 (yv x5))] _ (by simp [Act.eval]) (built_two _ _ rfl rfl)) (by assumption) ?_
              try simp only [Act.put, List.setIfInBounds_toArray, List.set_cons_zero, List.set_cons_succ]
              refine wpAnyH_take (i := 7) (oi := ⟨some 156, _, _, _, _, _⟩) (v := ?_) rfl (by kernel_rfl) (by decide +kernel) (by decide +kernel) (fun _ _ _ h => h) (Or.inl ⟨by rfl, ?_⟩) (by assumption) ?_
              rotate_left 1
              · (intro w' hSw; go_simp; try with_reducible rfl)
              try simp only [Act.put, List.setIfInBounds_toArray, List.set_cons_zero, List.set_cons_succ]
              clear hHeld
              refine wpAnyH_done (by decide +kernel) ?_ _
              refine NoPanic.normal ?_
              have HWL2 := Lib.hid (show (Instr.lookup 54 (.map (some wb)) (.int .u32 (a : Int)) false).run Try.prog w9.drew = .ok (.int .u8 (yv (wv a))) w9.drew from was_look (WasR.keep (W := w9) (W' := w9.drew) (HW6.out.keep (HB8.out.block wb HW6.out.lt)) rfl) a HLT.out)
              have hm9 := (HM6.out.stay (fun k hk => HB8.out.block k (HKL.out k hk)) HMK.out : MayR w9 _ _ _ _ _ _)
              have hm9d : MayR w9.drew w.heap.size K2 mb c T S := hm9.stay (fun _ _ => rfl) HMK.out
              have HML2 := Lib.hid (may_look hm9d a HLT.out)
              have HMY2 := Lib.hid (fun x hx => may_yes hm9d a HLT.out x hx)
              have HP9 := Lib.hid (HP8.out.below (Below.refl _ _).drew)
              have HB9 := Lib.hid (HB8.out.trans ((Below.refl _ w9).drew.mono HB8.out.size))
              clear hm9 hm9d HSS HWL HML HMY HP8 HB8
              generalize w9.drew = wz at *
              go_wp2_with fail
              go_loopw [156] (fun v156 wx => ∃ j : Nat, j ≤ 2 ∧ v156 = .int .i64 (j : Nat) ∧ wz = wx) (fun v _ => 2 - (intOf v).toNat)
              case atStart => exact ⟨0, by omega, rfl, rfl⟩
              case round =>
                obtain ⟨j, hj, rfl, rfl⟩ := hrel
                by_cases hlt : j < 2
                · have jI : (j : Int) < 2 := by omega
                  have j0 : (0 : Int) ≤ (j : Int) := by omega
                  have HLJ := Lib.hid hlt
                  have hix := index_two (.int .u8 (yv x0)) (.int .u8 (yv x5)) j hlt
                  obtain ⟨xx, hxx, hgx⟩ : ∃ xx, (if j = 0 then Value.int .u8 (yv x0) else .int .u8 (yv x5)) = .int .u8 (yv xx) ∧ MayV wv T S a xx := by
                    by_cases e : j = 0
                    · exact ⟨x0, by rw [if_pos e], HG0.out⟩
                    · exact ⟨x5, by rw [if_neg e], HG5.out⟩
                  rw [hxx] at hix
                  have hwl := HWL2.out
                  clear hxx hlt hj
                  by_cases e : xx = wv a
                  · subst e
                    clear hgx
                    go_wp2_with fail
                    go_roundw
                    case rel => exact ⟨j + 1, by have := HLJ.out; omega, by go_num, trivial⟩
                    case measure => simp [intOf]; have := HLJ.out; omega
                  · have hxe : (yv xx == yv (wv a)) = false := by
                      rw [beq_eq_false_iff_ne]
                      exact fun h => e (yv_same _ _ h)
                    have hxn : ¬ yv xx = yv (wv a) := fun h => e (yv_same _ _ h)
                    have hmay : mayB T S a xx := by
                      rcases hgx with h | h
                      · exact absurd h e
                      · exact h
                    obtain ⟨b, hTb, hil⟩ := HMY2.out xx hmay
                    have hml := HML2.out
                    rw [hTb] at hml
                    clear hgx hmay hTb e
                    go_wp2_with fail
                    go_roundw
                    case rel => exact ⟨j + 1, by have := HLJ.out; omega, by go_num, trivial⟩
                    case measure => simp [intOf]; have := HLJ.out; omega
                · have hbv2 : decide ((j : Int) < 2) = false := by simp; omega
                  clear hj hlt
                  go_wp2_with fail
                  go_roundw
                  case rel => exact ⟨a + 1, by have := HLT.out; omega, by go_num, _, HP9.out, HB9.out⟩
                  case measure => simp [intOf]; have := HLT.out; omega
            · have hbv2 : decide ((a : Int) < 16) = false := by simp; omega
              have HCW := Lib.hid (po_waits w wr _ D gl 16 _ _ _ _ hP (by simp))
              have HCD := Lib.hid (po_down w wr _ D gl 16 _ _ _ _ hP)
              have HB := Lib.hid hP.bel
              clear hP ha hlt hB
              go_wp2_with fail
              refine HCW.out.mono ?_
              rintro e w7 ⟨rfl, rfl⟩
              go_wp2_with fail
              refine HCD.out.mono ?_
              rintro e w8 ⟨rfl, rfl⟩
              go_wp2_with fail
              go_ret
              exact ⟨rfl, HB.out⟩
set_option maxRecDepth 100000 in
theorem lifted (os : Os) (started : os.Started) (H : Type) (enc : TypeId × Value → H) :
    ReturnsInHanded {} Try.checked os 4 .any (Rows.devLastsSpec.pre6 enc Try.prog Try.f4 Rows.devLastsRow.domain false) (Rows.devLastsSpec.post enc Try.prog Try.f4 false true false false) := by
  refine returnsInHanded_of_change_sized (C := Try.checked) own started (by kernel_rfl) Try.func4
    (ChangeSpec.witness6 (enc := enc) (C := Try.checked) false ⟨#[], #[.agg (lostCells none 0 0 none 0 0 0 0)], []⟩ 8 (by kernel_rfl) (by kernel_rfl) (by kernel_rfl) (by kernel_rfl)) ?_
  intro W base args ds gs before hval0 hW hcnd hsz0 _
  have hsz : (DataW.weightsEach Try.prog (Try.f4.params.toList ++ Rows.devLastsSpec.plain.varTypes Try.prog) (ds ++ gs)).all (· ≤ reachBytes) = true := hsz0
  clear hsz0
  have hval : ∀ (j : Nat) t v, Try.f4.params[j]? = some t → args[j]? = some v → Value.okWide Try.prog W .any base t v := hval0
  have hW' := hW
  obtain ⟨p, q, hA0, hV, rfl, hfz, hnd⟩ := hW
  have hA : DataW.TrodAll enc Try.prog W 0 (fun _ => true) true Try.f4.params.toList args.toList ds p := hA0
  rw [Try.params4] at hA hval hsz
  obtain ⟨v0, vs0, d0, ds0, p0, q0, hargs, rfl, rfl, h0, r0⟩ := trodAll_cons hA
  obtain ⟨rfl, rfl, rfl⟩ := trodAll_nil r0
  obtain rfl : args = #[v0] := by cases args; simp_all
  obtain ⟨rfl, rfl⟩ := trodVars_none hV
  have k0 := h0
  have lt0 : ∀ x ∈ p0, x.block < W.heap.size := by obtain ⟨m, hm⟩ := k0; exact DataW.trod_lt m _ _ _ hm
  obtain ⟨al, lenl, capl, l, ar, lenr, capr, r, keep, torn, rfl, el, bl, ml, nl, er, br, mr, nr, hkeep, htorn0, htorn1⟩ := open_lost (hval 0 53 v0 rfl rfl) h0 hsz
  clear hA0 hval0
  simp only [List.append_nil] at hW'
  refine (walk W al lenl capl l ar lenr capr r keep torn el bl ml nl er br mr nr hkeep htorn0 htorn1).mono fun e W' ⟨he, bel⟩ => ?_
  subst he
  exact ⟨_, rfl, _, _, _, [], _, [], hW', trodAll_mk1 (shut_bool Try.underlying4 _), (trodAll_cons_mk (Below.trod laidOut (by kernel_rfl) (of_decide_eq_true (by kernel_rfl)) k0 bel lt0) trodAll_mk0), rfl, bel.frame _, fun h => by cases h⟩

theorem over : Rows.devLastsRow.holds Try.pinned (OpenSpec.ofChange Rows.devLastsSpec) :=
  OpenClaim.holds_of_wide 4 Try.f4 rfl rfl rfl rfl rfl rfl rfl ⟨rfl, rfl, rfl, rfl, rfl⟩ rfl rfl rfl rfl rfl (by kernel_rfl) Try.func4 (by kernel_rfl)
    (of_decide_eq_true (by kernel_rfl)) (by unfold Func.isWrapper; first | (rw [if_pos (by decide +kernel)]; kernel_rfl) | (rw [if_neg (by decide +kernel)]; exact ⟨rfl, rfl⟩))
    (fun os started H enc _ => lifted os started H enc)

/-- The statement. -/
theorem proved : Rows.DevLastsSaid := over
#print axioms proved
end Go.Proofs.Ytmfpdbmohebodaa.devLasts
