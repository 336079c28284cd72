/-
  The code: words: a key's round keys, word by word.
-/
import Derived.Test.YtajfooefofafmaaYStep
import Derived.Test.YtajfooefofafmaaKeyT
import Derived.Deep.Cut
namespace Go.Proofs.Ytajfooefofafmaa
open Go.RowKit

theorem zero_words (W : World) : (zeroValue 86).run Try.prog W = .ok (.agg (yvs (zeroY 240))) W := by kernel_rfl
theorem zero_rounds (W : World) : (zeroValue 69).run Try.prog W = .ok (.agg (yvs (zeroY 240))) W := by kernel_rfl
theorem ybound_ok (n lim : Nat) (c : BoundsCode) (h : n ≤ lim) (w : World) : (Instr.sliceBound (.int .i64 (n : Int)) lim c).run Try.prog w = .ok n w := by
  have : (n : Int) ≤ (lim : Int) := by omega
  simp [Instr.sliceBound, asIntOf, this]
theorem slice_key (g i : Nat) (hi : i < 8) (W : World) : (Instr.sliceAt 28 (.pointer (some ⟨g, 0, none⟩)) (some (.int .i64 ((i : Int) * 4))) none none).run Try.prog W = .ok (.slice (some ⟨g, i * 4, none⟩) (32 - i * 4) (32 - i * 4)) W := by
  obtain ⟨i0, hi0, hs⟩ := Option.map_eq_some_iff.1 yone
  have b := ybound_ok (i * 4) 32 .sliceB (by omega) W
  have e : ((i * 4 : Nat) : Int) = (i : Int) * 4 := by omega
  rw [e] at b
  have h2 : ¬ 32 = i * 4 := by omega
  simp [Instr.sliceAt, run_underlying Try.underlying28, Instr.sureAddr, Instr.sliceBounds, sizeOf, typeInfo, hi0, hs, Addr.add_mid, b, h2]
theorem array_word (a : Addr) (n : Nat) (hn : 4 ≤ n) (W : World) : (Instr.arrayAt 85 (.slice (some a) n n)).run Try.prog W = .ok (.pointer (some a)) W := by
  have : ¬ n < 4 := by omega
  simp [Instr.arrayAt, run_underlying Try.underlying85, this]
/-- Four bytes from place o on, written over. -/
def put4 (M : List (BitVec 8)) (o : Nat) (a b c d : BitVec 8) : List (BitVec 8) := (((M.set o a).set (o + 1) b).set (o + 2) c).set (o + 3) d
theorem put4_length (M : List (BitVec 8)) (o : Nat) (a b c d : BitVec 8) : (put4 M o a b c d).length = M.length := by simp [put4]
theorem put4_below (M : List (BitVec 8)) (o j : Nat) (a b c d : BitVec 8) (h : j < o) : (put4 M o a b c d).getD j 0 = M.getD j 0 := by
  unfold put4
  simp only [List.getD, List.getElem?_set]
  rw [if_neg (by omega), if_neg (by omega), if_neg (by omega), if_neg (by omega)]
theorem put4_at (M : List (BitVec 8)) (o j : Nat) (a b c d : BitVec 8) (hM : o + 4 ≤ M.length) (h : j < 4) : (put4 M o a b c d).getD (o + j) 0 = [a, b, c, d].getD j 0 := by
  unfold put4
  simp only [List.getD, List.getElem?_set, List.length_set]
  match j, h with
  | 0, _ => rw [if_neg (by omega), if_neg (by omega), if_neg (by omega), if_pos (by omega), if_pos (by omega)]; rfl
  | 1, _ => rw [if_neg (by omega), if_neg (by omega), if_pos (by omega), if_pos (by omega)]; rfl
  | 2, _ => rw [if_neg (by omega), if_pos (by omega), if_pos (by omega)]; rfl
  | 3, _ => rw [if_pos (by omega), if_pos (by omega)]; rfl
theorem ArrY.put4 {w : World} {g t : Nat} {M : List (BitVec 8)} (h : ArrY w g t M) (o : Nat) (a b c d : BitVec 8) :
    ArrY ((((w.setCell ⟨g, o, none⟩ (.int .u8 (yv a))).setCell ⟨g, o + 1, none⟩ (.int .u8 (yv b))).setCell ⟨g, o + 2, none⟩ (.int .u8 (yv c))).setCell ⟨g, o + 3, none⟩ (.int .u8 (yv d))) g t (put4 M o a b c d) :=
  (((h.set o a).set (o + 1) b).set (o + 2) c).set (o + 3) d
theorem below_put4 {B : Nat} {a w : World} (h : Below B a w) {g : Nat} (hg : B ≤ g) (o : Nat) (v0 v1 v2 v3 : Value) :
    Below B a ((((w.setCell ⟨g, o, none⟩ v0).setCell ⟨g, o + 1, none⟩ v1).setCell ⟨g, o + 2, none⟩ v2).setCell ⟨g, o + 3, none⟩ v3) :=
  (((h.setCell (p := ⟨g, o, none⟩) hg v0).setCell (p := ⟨g, o + 1, none⟩) hg v1).setCell (p := ⟨g, o + 2, none⟩) hg v2).setCell (p := ⟨g, o + 3, none⟩) hg v3
theorem setF_at4 (o : Nat) (f : Nat → BitVec 8) (l : List (BitVec 8)) (r n : Nat) (hl : o + n ≤ l.length) (hr : r < n) : (setF (fun t => o + t) (fun t => f (o + t)) n l).getD (o + r) 0 = f (o + r) := by
  induction n with
  | zero => omega
  | succ n ih =>
    unfold setF
    by_cases h : r = n
    · subst h
      simp [List.getD, setF_length, show o + r < l.length by omega]
    · have := ih (by omega) (by omega)
      simp only [List.getD, List.getElem?_set] at this ⊢
      rw [if_neg (by omega)]
      exact this
/-- 'stepped' over words that are written out. -/
theorem stepped4 (a0 a1 a2 a3 s0 s1 s2 s3 : BitVec 8) (i : Nat) (w : World) (h8 : 8 ≤ i) (h60 : i < 60) (hs : stepW [a0, a1, a2, a3] i = [s0, s1, s2, s3]) :
    Calls Try.prog 52 #[.agg #[.int .u8 (yv a0), .int .u8 (yv a1), .int .u8 (yv a2), .int .u8 (yv a3)], .int .i64 i] w
      fun e w' => e = .returned (.agg #[.int .u8 (yv s0), .int .u8 (yv s1), .int .u8 (yv s2), .int .u8 (yv s3)]) ∧ Below w.heap.size w w' := by
  have h := stepped_any a0 a1 a2 a3 i w h8 h60
  rw [hs] at h
  exact h
theorem step_four (w : List (BitVec 8)) (i : Nat) : ∃ s0 s1 s2 s3, stepW w i = [s0, s1, s2, s3] := four4 _ (stepW_length w i)

set_option maxRecDepth 100000 in
set_option maxHeartbeats 1600000 in
theorem words_any (k : List (BitVec 8)) (w : World) (hk : k.length = 32) :
    Calls Try.prog 39 #[.agg (yvs k)] w fun e w' => e = .returned (.agg (yvs (keysL k))) ∧ Below w.heap.size w w' := by
  have HKL := Lib.hid hk
  have hz := zero_words
  obtain ⟨T, hT⟩ : ∃ T, keysL k = T := ⟨_, rfl⟩
  have HTL := Lib.hid (show T.length = 240 by rw [← hT]; exact keysL_length k hk)
  have HTK := Lib.hid (show ∀ j, j < 32 → T.getD j 0 = k.getD j 0 by rw [← hT]; exact keys_key k hk)
  have HTS := Lib.hid (show ∀ i j, 8 ≤ i → i < 60 → j < 4 → T.getD (4 * i + j) 0 = (stepW (tw T (i - 1)) i).getD j 0 ^^^ T.getD (4 * (i - 8) + j) 0 by rw [← hT]; exact keys_step k hk)
  rw [hT]
  clear hk hT
  go_enter Try.func39, Try.ntmps39
  go_wp2
  clear hz
  refine ygen3 fun W0 hW => ?_
  obtain ⟨h0, h1, h2, hsz, hbel⟩ := hW
  have HX0 := Lib.hid (show ArrY W0 w.heap.size 28 k from h0)
  have HR := Lib.hid (show ArrY W0 (w.heap.size + 1) 86 (zeroY 240) from h1)
  have HM := Lib.hid (show ArrY W0 (w.heap.size + 1 + 1) 86 (zeroY 240) from h2)
  have HB := Lib.hid hbel
  have HZ := Lib.hid hsz
  clear h0 h1 h2 hsz hbel
  generalize hP0 : w.heap.size = P0 at *
  have HP0 := Lib.hid hP0
  clear hP0
  go_loopw [8] (fun v8 wr => ∃ (i : Nat) (M : List (BitVec 8)), i ≤ 8 ∧ v8 = .int .i64 (i : Nat) ∧ M.length = 240 ∧ (∀ j, j < 4 * i → M.getD j 0 = T.getD j 0) ∧ ArrY wr (P0 + 1 + 1) 86 M ∧ Below (P0 + 1 + 1) W0 wr) (fun v _ => 8 - (intOf v).toNat)
  case atStart => exact ⟨0, zeroY 240, by omega, rfl, by simp [zeroY], fun j hj => by omega, HM.out, Below.refl _ _⟩
  case round =>
    obtain ⟨i, M, hi, rfl, hML, hMT, hA, hb⟩ := hrel
    by_cases hlt : i < 8
    · have hX := HX0.out.below hb (show P0 < P0 + 1 + 1 by omega)
      have c0 := hX.cell (k := i * 4) (by rw [HKL.out]; omega)
      have c1 := hX.cell (k := i * 4 + 1) (by rw [HKL.out]; omega)
      have c2 := hX.cell (k := i * 4 + 2) (by rw [HKL.out]; omega)
      have c3 := hX.cell (k := i * 4 + 3) (by rw [HKL.out]; omega)
      have d0 := hA.cell (k := i * 4) (by rw [hML]; omega)
      have d1 := hA.cell (k := i * 4 + 1) (by rw [hML]; omega)
      have d2 := hA.cell (k := i * 4 + 2) (by rw [hML]; omega)
      have d3 := hA.cell (k := i * 4 + 3) (by rw [hML]; omega)
      have f0 := hA.free (i * 4)
      have f1 := hA.free (i * 4 + 1)
      have f2 := hA.free (i * 4 + 2)
      have f3 := hA.free (i * 4 + 3)
      have HK4 := Lib.hid (show ∀ j, j < 4 → [k.getD (i * 4) 0, k.getD (i * 4 + 1) 0, k.getD (i * 4 + 2) 0, k.getD (i * 4 + 3) 0].getD j 0 = T.getD (i * 4 + j) 0 by
        intro j hj
        rw [HTK.out _ (by omega)]
        match j, hj with
        | 0, _ | 1, _ | 2, _ | 3, _ => rfl)
      generalize k.getD (i * 4) 0 = x0 at *
      generalize k.getD (i * 4 + 1) 0 = x1 at *
      generalize k.getD (i * 4 + 2) 0 = x2 at *
      generalize k.getD (i * 4 + 3) 0 = x3 at *
      generalize M.getD (i * 4) 0 = y0 at *
      generalize M.getD (i * 4 + 1) 0 = y1 at *
      generalize M.getD (i * 4 + 2) 0 = y2 at *
      generalize M.getD (i * 4 + 3) 0 = y3 at *
      have HML := Lib.hid hML
      have HMT := Lib.hid hMT
      have HA := Lib.hid hA
      have HB2 := Lib.hid hb
      have HLT := Lib.hid hlt
      have hiI : (i : Int) < 8 := by omega
      have hi0 : (0 : Int) ≤ (i : Int) := by omega
      have hsl := slice_key P0 i hlt
      have har := array_word ⟨P0, i * 4, none⟩ (32 - i * 4) (by omega)
      clear hML hMT hA hb hlt hi hX
      go_wp2_with fail
      go_roundw
      case rel =>
        refine ⟨i + 1, put4 M (i * 4) x0 x1 x2 x3, by have := HLT.out; omega, by go_num, by rw [put4_length]; exact HML.out, ?_, HA.out.put4 (i * 4) x0 x1 x2 x3, below_put4 HB2.out (Nat.le_refl _) _ _ _ _ _⟩
        intro j hj
        by_cases h : j < 4 * i
        · rw [put4_below _ _ _ _ _ _ _ (by omega)]; exact HMT.out j h
        · obtain ⟨t, rfl⟩ : ∃ t, j = i * 4 + t := ⟨j - i * 4, by omega⟩
          rw [put4_at _ _ _ _ _ _ _ (by have := HML.out; have := HLT.out; omega) (by omega)]
          exact HK4.out t (by omega)
      case measure => simp [intOf]; omega
    · have hge : (8 : Int) ≤ (i : Int) := by omega
      have HI8 := Lib.hid (show i = 8 by omega)
      have HML := Lib.hid hML
      have HMT := Lib.hid hMT
      have HA := Lib.hid hA
      have HB2 := Lib.hid hb
      clear hML hMT hA hb hlt hi
      go_wp2_with fail
      go_loopw [5] (fun v5 wr => ∃ (i : Nat) (M : List (BitVec 8)), 8 ≤ i ∧ i ≤ 60 ∧ v5 = .int .i64 (i : Nat) ∧ M.length = 240 ∧ (∀ j, j < 4 * i → M.getD j 0 = T.getD j 0) ∧ ArrY wr (P0 + 1 + 1) 86 M ∧ Below (P0 + 1 + 1) W0 wr) (fun v _ => 60 - (intOf v).toNat)
      case atStart => exact ⟨8, M, by omega, by omega, rfl, HML.out, by have := HMT.out; rwa [HI8.out] at this, HA.out, HB2.out⟩
      case round =>
        clear hge HI8 HML HMT HA HB2
        obtain ⟨i, M, h8, h60, rfl, hML, hMT, hA, hb⟩ := hrel
        by_cases hlt : i < 60
        · obtain ⟨p, ep, hp⟩ : ∃ p : Nat, IntKind.i64.wrap ((i : Int) - 1) = (p : Int) ∧ i = p + 1 := ⟨i - 1, by rw [IntWalk.i64_in _ (by omega)]; omega, by omega⟩
          obtain ⟨q, eq, hq⟩ : ∃ q : Nat, IntKind.i64.wrap ((i : Int) - 8) = (q : Int) ∧ i = q + 8 := ⟨i - 8, by rw [IntWalk.i64_in _ (by omega)]; omega, by omega⟩
          obtain ⟨s0, s1, s2, s3, hs⟩ := step_four (tw T p) i
          have c0 := hA.cell (k := p * 4) (by rw [hML]; omega)
          have c1 := hA.cell (k := p * 4 + 1) (by rw [hML]; omega)
          have c2 := hA.cell (k := p * 4 + 2) (by rw [hML]; omega)
          have c3 := hA.cell (k := p * 4 + 3) (by rw [hML]; omega)
          rw [hMT _ (by omega)] at c0 c1 c2 c3
          unfold tw at hs
          rw [show 4 * p = p * 4 by omega] at hs
          have HST := Lib.hid (fun w => stepped4 _ _ _ _ s0 s1 s2 s3 i w h8 hlt hs)
          have HTN := Lib.hid (show ∀ j, j < 4 → T.getD (i * 4 + j) 0 = [s0, s1, s2, s3].getD j 0 ^^^ T.getD (q * 4 + j) 0 by
            intro j hj
            rw [show i * 4 = 4 * i by omega, HTS.out i j h8 hlt hj, show i - 1 = p by omega, show i - 8 = q by omega, show 4 * q = q * 4 by omega]
            unfold tw
            rw [show 4 * p = p * 4 by omega, hs])
          have HQ := Lib.hid (And.intro hp (And.intro hq (And.intro h8 hlt)))
          have pI : (p : Int) < 60 := by omega
          have p0 : (0 : Int) ≤ (p : Int) := by omega
          have qI : (q : Int) < 60 := by omega
          have q0 : (0 : Int) ≤ (q : Int) := by omega
          have iI : (i : Int) < 60 := by omega
          have i0 : (0 : Int) ≤ (i : Int) := by omega
          have HML := Lib.hid hML
          have HMT := Lib.hid hMT
          have HA := Lib.hid hA
          have HB2 := Lib.hid hb
          generalize T.getD (p * 4) 0 = x0 at *
          generalize T.getD (p * 4 + 1) 0 = x1 at *
          generalize T.getD (p * 4 + 2) 0 = x2 at *
          generalize T.getD (p * 4 + 3) 0 = x3 at *
          clear hML hMT hA hb hlt h8 h60 hs hp hq
          go_wp2_with fail
          refine (HST.out _).mono ?_
          rintro e w1 ⟨rfl, hb1⟩
          have HZ1 := Lib.hid (show P0 + 1 + 1 < wr.heap.size by have := HB2.out.size; have := HZ.out; omega)
          have HA1 := Lib.hid (HA.out.below hb1 HZ1.out)
          have HB1 := Lib.hid (HB2.out.trans (hb1.mono (Nat.le_of_lt HZ1.out)))
          have d0 := HA1.out.cell (k := i * 4) (by have := HML.out; have := HQ.out; omega)
          have d1 := HA1.out.cell (k := i * 4 + 1) (by have := HML.out; have := HQ.out; omega)
          have d2 := HA1.out.cell (k := i * 4 + 2) (by have := HML.out; have := HQ.out; omega)
          have d3 := HA1.out.cell (k := i * 4 + 3) (by have := HML.out; have := HQ.out; omega)
          have f0 := HA1.out.free (i * 4)
          have f1 := HA1.out.free (i * 4 + 1)
          have f2 := HA1.out.free (i * 4 + 2)
          have f3 := HA1.out.free (i * 4 + 3)
          generalize M.getD (i * 4) 0 = y0 at *
          generalize M.getD (i * 4 + 1) 0 = y1 at *
          generalize M.getD (i * 4 + 2) 0 = y2 at *
          generalize M.getD (i * 4 + 3) 0 = y3 at *
          clear hb1 c0 c1 c2 c3
          go_upto_region 11 with fail
          generalize hW2 : World.setCell (World.setCell (World.setCell (World.setCell w1 _ _) _ _) _ _) _ _ = W2
          have HA2 := Lib.hid (show ArrY W2 (P0 + 1 + 1) 86 (put4 M (i * 4) s0 s1 s2 s3) by rw [← hW2]; exact HA1.out.put4 (i * 4) s0 s1 s2 s3)
          have HB3 := Lib.hid (show Below (P0 + 1 + 1) W0 W2 by rw [← hW2]; exact below_put4 HB1.out (Nat.le_refl _) _ _ _ _ _)
          clear hW2 d0 d1 d2 d3 f0 f1 f2 f3
          have hL := HML.out
          have hQ := HQ.out
          have c0 := HA2.out.cell (k := q * 4) (by rw [put4_length]; omega)
          have c1 := HA2.out.cell (k := q * 4 + 1) (by rw [put4_length]; omega)
          have c2 := HA2.out.cell (k := q * 4 + 2) (by rw [put4_length]; omega)
          have c3 := HA2.out.cell (k := q * 4 + 3) (by rw [put4_length]; omega)
          rw [put4_below _ _ _ _ _ _ _ (by omega), HMT.out _ (by omega)] at c0 c1 c2 c3
          have HTN2 := Lib.hid (show ∀ j, j < 4 → T.getD (i * 4 + j) 0 = [s0, s1, s2, s3].getD j 0 ^^^ [T.getD (q * 4) 0, T.getD (q * 4 + 1) 0, T.getD (q * 4 + 2) 0, T.getD (q * 4 + 3) 0].getD j 0 by
            intro j hj
            rw [HTN.out j hj]
            match j, hj with
            | 0, _ | 1, _ | 2, _ | 3, _ => rfl)
          generalize T.getD (q * 4) 0 = b0 at *
          generalize T.getD (q * 4 + 1) 0 = b1 at *
          generalize T.getD (q * 4 + 2) 0 = b2 at *
          generalize T.getD (q * 4 + 3) 0 = b3 at *
          clear hL hQ HTN
          go_wp2_with fail
          clear c0 c1 c2 c3
          go_loopw [35] (fun v35 wr => ∃ j : Nat, j ≤ 4 ∧ v35 = .int .i64 (j : Nat) ∧ ArrY wr (P0 + 1 + 1) 86 (setF (fun t => i * 4 + t) (fun t => T.getD (i * 4 + t) 0) j (put4 M (i * 4) s0 s1 s2 s3)) ∧ Below (P0 + 1 + 1) W0 wr) (fun v _ => 4 - (intOf v).toNat)
          case atStart => exact ⟨0, by omega, rfl, HA2.out, HB3.out⟩
          case round =>
            obtain ⟨j, hj, rfl, hA, hb⟩ := hrel
            by_cases hlt : j < 4
            · have hL := HML.out
              have hQ := HQ.out
              have ci := hA.cell (k := i * 4 + j) (by rw [setF_length, put4_length]; omega)
              rw [setF_other _ _ _ _ _ j (fun t ht => by omega), put4_at _ _ _ _ _ _ _ (by omega) hlt] at ci
              have fi := hA.free (i * 4 + j)
              have hix := fun w => yindex_word [b0, b1, b2, b3] rfl j hlt w
              have hT := HTN2.out j hlt
              have HSF := Lib.hid (show setF (fun t => i * 4 + t) (fun t => T.getD (i * 4 + t) 0) (j + 1) (put4 M (i * 4) s0 s1 s2 s3) = (setF (fun t => i * 4 + t) (fun t => T.getD (i * 4 + t) 0) j (put4 M (i * 4) s0 s1 s2 s3)).set (i * 4 + j) (T.getD (i * 4 + j) 0) from rfl)
              rw [wordA_eq] at hix
              have hx := yv_xor ([s0, s1, s2, s3].getD j 0) ([b0, b1, b2, b3].getD j 0)
              rw [← hT] at hx
              have HA3 := Lib.hid hA
              have HB4 := Lib.hid hb
              have HLT := Lib.hid hlt
              have jI : (j : Int) < 4 := by omega
              have j0 : (0 : Int) ≤ (j : Int) := by omega
              generalize [s0, s1, s2, s3].getD j 0 = s at *
              generalize [b0, b1, b2, b3].getD j 0 = b at *
              generalize T.getD (i * 4 + j) 0 = y at *
              clear hL hQ hA hb hlt hj hT
              go_wp2_with fail
              go_region
              go_wp2_with fail
              go_roundw
              case rel =>
                exact ⟨j + 1, by have := HLT.out; omega, by go_num, by rw [HSF.out]; exact ArrY.set (w := _) HA3.out (i * 4 + j) _, (HB4.out.setCell (p := ⟨P0 + 1 + 1, i * 4 + j, none⟩) (Nat.le_refl _) _).drew⟩
              case measure => simp [intOf]; omega
            · have HJ := Lib.hid (show j = 4 by omega)
              have HA3 := Lib.hid hA
              have HB4 := Lib.hid hb
              have hge : (4 : Int) ≤ (j : Int) := by omega
              clear hA hb hlt hj
              go_wp2_with fail
              go_roundw
              case rel =>
                have h3 := HA3.out
                rw [HJ.out] at h3
                refine ⟨i + 1, _, by have := HQ.out; omega, by have := HQ.out; omega, by go_num, by rw [setF_length, put4_length]; exact HML.out, ?_, h3, HB4.out⟩
                intro t ht
                have hL := HML.out
                have hQ := HQ.out
                by_cases h : t < 4 * i
                · rw [setF_other _ _ _ _ _ 4 (fun r hr => by omega), put4_below _ _ _ _ _ _ _ (by omega)]; exact HMT.out t h
                · obtain ⟨r, rfl⟩ : ∃ r, t = i * 4 + r := ⟨t - i * 4, by omega⟩
                  exact setF_at4 (i * 4) (fun t => T.getD t 0) _ r 4 (by rw [put4_length]; omega) (by omega)
              case measure => simp [intOf]; have := HQ.out; omega
        · have hge : (60 : Int) ≤ (i : Int) := by omega
          have HI := Lib.hid (show i = 60 by omega)
          have hMeq : M = T := by
            apply List.ext_getElem (by rw [hML, HTL.out])
            intro j h1 h2
            have := hMT j (by omega)
            simpa [List.getD, h1, h2] using this
          have HA := Lib.hid (show wr.heap[P0 + 1 + 1]? = some (.cells (yvs T) 86 (0, 0)) by rw [← hMeq]; exact hA)
          have HR1 := Lib.hid (show wr.heap[P0 + 1]? = some (.cells (yvs (zeroY 240)) 86 (0, 0)) from HR.out.below hb (by omega))
          have SH := Lib.hid (size_words60 T HTL.out)
          have SE := Lib.hid (show (yvs (zeroY 240)).size = (yvs T).size by rw [yvs_size, yvs_size, HTL.out]; simp [zeroY])
          have HB2 := Lib.hid (HB.out.trans (hb.mono (by omega)))
          clear hlt hA hb hML hMT hMeq h8 h60
          go_wp2_with (first
            | (with_reducible refine wpList_load_row (o := ⟨some 49, _, _, _, _, _⟩) rfl 86 _ rfl (P0 + 1 + 1) rfl 86 (yvs T) (0, 0) _ HA.out Try.underlying86 rfl SH.out ?_)
            | (with_reducible refine wpList_store_row (o := ⟨none, .store _ (.tmp 2) _, _, _, _, _⟩) rfl 86 _ _ rfl (P0 + 1) (yvs T) rfl rfl 86 (yvs (zeroY 240)) HR1.out SH.out SE.out (yvs_one _) ?_))
          refine bodyPost_ret (v := .agg (yvs T)) (results_cell_row Try.results39 _ _ (P0 + 1) 86 (yvs T) (0, 0) _ rfl (setRow_heap _ (P0 + 1) _ (yvs T) _ _ HR1.out) Try.underlying86 rfl SH.out) rfl ⟨rfl, ?_⟩
          rw [HP0.out]
          exact ybelow_row HB2.out (by omega) _
end Go.Proofs.Ytajfooefofafmaa
