/-
  The code: Rounds: a key's round keys.
-/
import Derived.Test.YtajfooefofafmaaYKeys
namespace Go.Proofs.Ytajfooefofafmaa
open Go.RowKit

theorem ystep_copy {P : Program} {ops : Array Oper} {o : Oper} {a : Act} {w : World} {K : Act → World → Prop} {Q : Exit → Act → World → Prop} {E : Prop} (hgd : o.guard = none) (d s : Operand) (dT sT : TypeId)
    (ho : o.op = .call { callee := .builtin .copy, args := #[d, s], argTypes := #[dT, sT] }) (elem : TypeId) (hu : P.underlying dT = some (.slice elem)) (hsz : (P.info? elem).map (·.size) = some 1)
    (g off dLen dCap : Nat) (ad : Addr) (sLen sCap : Nat) (hd : a.eval d = .slice (some ⟨g, off, none⟩) dLen dCap) (hs : a.eval s = .slice (some ad) sLen sCap)
    (cur : List Value) (t : TypeId) (hg : w.heap[g]? = some (.cells cur.toArray t (0, 0))) (cs : List Value) (hn : cs.length = Nat.min sLen dLen)
    (hsrc : ∀ j v, cs[j]? = some v → w.cell? (ad.add j) = some v) (hfit : off + cs.length ≤ cur.length) (h1 : ∀ v ∈ cs, v.oneCell' = true)
    (h : K (a.put o.dst (goInt cs.length)) (w.setRow g (List.take off cur ++ (cs ++ List.drop (off + cs.length) cur)).toArray)) :
    if Region.wanted o (yielded ops a.tmps) = true then Oper.wp P o a w K Q else E := by
  have hw : Region.wanted o (yielded ops a.tmps) = true := by simp [Region.wanted, hgd]
  rw [if_pos hw]
  have hrun := run_copy_row (P := P) w dT sT o.type elem g off dLen dCap ad sLen sCap cur.toArray t cs hu hsz hg hn hsrc (by simpa using hfit) h1
  unfold Oper.wp
  simp [execOp, ho, resolve, invoke, builtin, hd, hs, hrun, Result.andThen]
  exact h
theorem put4_putL (M : List (BitVec 8)) (o : Nat) (a b c d : BitVec 8) (h : o + 4 ≤ M.length) : put4 M o a b c d = putL M o [a, b, c, d] := by
  unfold put4
  rw [← putL_cons _ _ _ _ (by omega), ← putL_cons _ _ _ _ (by simp; omega), ← putL_cons _ _ _ _ (by simp; omega), ← putL_cons _ _ _ _ (by simp; omega)]
  simp [putL]
theorem yvs_putL (M : List (BitVec 8)) (o : Nat) (ys : List (BitVec 8)) : (List.take o (yvs M).toList ++ ((yvs ys).toList ++ List.drop (o + (yvs ys).toList.length) (yvs M).toList)).toArray = yvs (putL M o ys) := by
  simp [yvs, putL, List.map_take, List.map_drop]
theorem slice_round (g d r : Nat) (hr : r < 16) (W : World) : (Instr.sliceAt 55 (.pointer (some ⟨g, d * 16, none⟩)) (some (.int .i64 (r : Int))) none none).run Try.prog W = .ok (.slice (some ⟨g, d * 16 + r, none⟩) (16 - r) (16 - r)) W := by
  obtain ⟨i0, hi0, hs⟩ := Option.map_eq_some_iff.1 yone
  have b := ybound_ok r 16 .sliceB (by omega) W
  have h2 : ¬ 16 = r := by omega
  simp [Instr.sliceAt, run_underlying Try.underlying55, Instr.sureAddr, Instr.sliceBounds, sizeOf, typeInfo, hi0, hs, Addr.add_mid, b, h2]
theorem slice_word (g o : Nat) (W : World) : (Instr.sliceAt 85 (.pointer (some ⟨g, o, none⟩)) none none none).run Try.prog W = .ok (.slice (some ⟨g, o, none⟩) 4 4) W := by
  obtain ⟨i0, hi0, _⟩ := Option.map_eq_some_iff.1 yone
  simp [Instr.sliceAt, run_underlying Try.underlying85, Instr.sureAddr, Instr.sliceBounds, sizeOf, typeInfo, hi0, Addr.add_mid]
theorem ygen_fresh {P : Program} {c : Code} {Q : Exit → Act → World → Prop} {a : Act} {w : World} {old cs : Array Value} {T : TypeId} {B : Obj}
    (h : ∀ W : World, W.heap[w.heap.size]? = some (.cells cs T (0, 0)) ∧ W.heap[w.heap.size + 1]? = some B ∧ W.heap.size = w.heap.size + 2 ∧ Below w.heap.size w W → c.wp P Q a W) :
    c.wp P Q a (((w.alloc (.cells old T)).setRow w.heap.size cs).alloc B) := by
  have e1 := setRow_heap (w.alloc (.cells old T)) w.heap.size _ cs _ _ (heap_alloc_new w _)
  refine h _ ⟨?_, ?_, by simp, (ybelow_row ((Below.refl w.heap.size w).alloc (Nat.le_refl _) _) (Nat.le_refl _) cs).alloc (by simp) _⟩
  · rw [Below.heap_alloc _ _ _ (by simp)]; exact e1
  · have := heap_alloc_new ((w.alloc (.cells old T)).setRow w.heap.size cs) B
    simpa using this

set_option maxRecDepth 100000 in
set_option maxHeartbeats 1600000 in
theorem rounds_any (k : List (BitVec 8)) (w : World) (hk : k.length = 32) :
    Calls Try.prog 25 #[.agg (yvs k)] w fun e w' => e = .returned (.agg (yvs (keysL k))) ∧ Below w.heap.size w w' := by
  have HKL := Lib.hid hk
  have SK := Lib.hid (size_key k hk)
  have HW := Lib.hid (fun w => words_any k w hk)
  have hz := zero_rounds
  have hz2 := zero_words
  have HTL := Lib.hid (keysL_length k hk)
  generalize keysL k = T at *
  have ST := Lib.hid (size_words60 T HTL.out)
  clear hk
  go_enter Try.func25, Try.ntmps25
  go_wp2_with (first
    | (with_reducible refine wpList_load_row (o := ⟨some 7, _, _, _, _, _⟩) rfl 28 _ rfl w.heap.size rfl 28 (yvs k) (0, 0) _ (ytwo w _ _).1 Try.underlying28 rfl SK.out ?_))
  obtain ⟨_, h1, hsz, hbel⟩ := ytwo w (.cells (yvs k) 28) (.cells (yvs (zeroY 240)) 69)
  refine (HW.out _).mono ?_
  rintro e w1 ⟨rfl, hb1⟩
  replace hb1 : Below (w.heap.size + 2) ((w.alloc (.cells (yvs k) 28)).alloc (.cells (yvs (zeroY 240)) 69)) w1 := by rw [← hsz]; exact hb1
  have HR1 := Lib.hid (show ArrY w1 (w.heap.size + 1) 69 (zeroY 240) from (hb1.block _ (by omega)).trans h1)
  have HB1 := Lib.hid (hbel.trans (hb1.mono (by omega)))
  have HZ1 := Lib.hid (show w.heap.size + 2 ≤ w1.heap.size by rw [← hsz]; exact hb1.size)
  clear h1 hsz hbel hb1
  go_wp2_with (first
    | (with_reducible refine wpList_store_row (o := ⟨none, .store _ (.tmp 3) _, _, _, _, _⟩) rfl 86 _ _ rfl w1.heap.size (yvs T) rfl rfl 86 _ (heap_alloc_new w1 _) ST.out ?c1 (yvs_one _) ?_))
  case c1 => rw [yvs_size, yvs_size, HTL.out]; simp [zeroY]
  clear hz hz2
  refine ygen_fresh fun W0 hW => ?_
  obtain ⟨h0, h1, hsz, hbel⟩ := hW
  have HX := Lib.hid (show ArrY W0 w1.heap.size 86 T from h0)
  have HM := Lib.hid (show ArrY W0 (w1.heap.size + 1) 69 (zeroY 240) from h1)
  have HR := Lib.hid (HR1.out.below hbel (by have := HZ1.out; omega))
  have HB := Lib.hid (HB1.out.trans (hbel.mono (by have := HZ1.out; omega)))
  have HP := Lib.hid (show w.heap.size + 1 < w1.heap.size from HZ1.out)
  clear h0 h1 hsz hbel
  generalize hPW : w1.heap.size = PW at *
  clear hPW HB1 HR1 HZ1
  go_loopw [9] (fun v9 wr => ∃ (i : Nat) (R : List (BitVec 8)), i ≤ 60 ∧ v9 = .int .i64 (i : Nat) ∧ R.length = 240 ∧ (∀ j, j < 4 * i → R.getD j 0 = T.getD j 0) ∧ ArrY wr (PW + 1) 69 R ∧ Below (PW + 1) W0 wr) (fun v _ => 60 - (intOf v).toNat)
  case atStart => exact ⟨0, zeroY 240, by omega, rfl, by simp [zeroY], fun j hj => by omega, HM.out, Below.refl _ _⟩
  case round =>
    obtain ⟨i, R, hi, rfl, hRL, hRT, hA, hb⟩ := hrel
    by_cases hlt : i < 60
    · obtain ⟨d, hd, hd2⟩ : ∃ d : Nat, (i : Int) * 4 / 16 = (d : Int) ∧ i * 4 / 16 = d := ⟨i * 4 / 16, by omega, rfl⟩
      obtain ⟨r, hr, hr2⟩ : ∃ r : Nat, (i : Int) * 4 % 16 = (r : Int) ∧ i * 4 % 16 = r := ⟨i * 4 % 16, by omega, rfl⟩
      have eo : d * 16 + r = i * 4 := by omega
      have hX := HX.out.below hb (show PW < PW + 1 by omega)
      have hsl := slice_round (PW + 1) d r (by omega)
      rw [eo] at hsl
      have hsw := slice_word PW (i * 4)
      obtain ⟨ys, hys⟩ : ∃ ys, (T.drop (i * 4)).take 4 = ys := ⟨_, rfl⟩
      have hyl : ys.length = 4 := by rw [← hys]; simp [HTL.out]; omega
      have hrg := hX.range (i * 4) 4
      rw [hys] at hrg
      have HRG := Lib.hid (show ∀ j v, (yvs ys).toList[j]? = some v → wr.drew.cell? ((⟨PW, i * 4, none⟩ : Addr).add j) = some v from fun j v hv => by rw [Addr.add_mid]; exact hrg j v hv)
      have HCP := Lib.hid (show (yvs ys).toList.length = Nat.min 4 (16 - r) ∧ i * 4 + (yvs ys).toList.length ≤ (yvs R).toList.length ∧ ∀ v ∈ (yvs ys).toList, v.oneCell' = true from
        ⟨by rw [Array.length_toList, yvs_size, hyl]; exact (Nat.min_eq_left (by omega)).symm, by rw [Array.length_toList, Array.length_toList, yvs_size, yvs_size, hyl, hRL]; omega, fun v hv => Array.all_eq_true_iff_forall_mem.1 (yvs_one ys) v (by simpa using hv)⟩)
      have hyT : ∀ j, j < 4 → ys.getD j 0 = T.getD (i * 4 + j) 0 := by
        intro j hj
        rw [← hys]
        have : i * 4 + j < T.length := by rw [HTL.out]; omega
        simp [List.getD, hj, this]
      have HY := Lib.hid (And.intro hyl hyT)
      have HRL := Lib.hid hRL
      have HRT := Lib.hid hRT
      have HA := Lib.hid hA
      have HA0 := Lib.hid (show wr.drew.heap[PW + 1]? = some (.cells (yvs R).toList.toArray 69 (0, 0)) from hA)
      have HB2 := Lib.hid hb
      have HLT := Lib.hid hlt
      have iI : (i : Int) < 60 := by omega
      have i0 : (0 : Int) ≤ (i : Int) := by omega
      have dI : (d : Int) < 15 := by omega
      have d0 : (0 : Int) ≤ (d : Int) := by omega
      have rI : (r : Int) < 16 := by omega
      have r0 : (0 : Int) ≤ (r : Int) := by omega
      have hwm : IntKind.i64.wrap ((i : Int) * 4) = (i : Int) * 4 := IntWalk.i64_in _ (by omega)
      have htm : ((i : Int) * 4).tmod 16 = (r : Int) := by rw [Int.tmod_eq_emod_of_nonneg (by omega)]; exact hr
      clear hi hlt hRL hRT hA hb hX hd2 hr2 eo hys hyl hrg hyT
      go_wp2_with fail
      go_region_held3 (fun _ => True) (exact trivial)
        ((refine ystep_copy rfl (.tmp 21) (.tmp 24) 32 32 (by rfl) 5 Try.underlying32 yone (PW + 1) (i * 4) (16 - r) (16 - r) ⟨PW, i * 4, none⟩ 4 4 (by rfl) (by rfl) (yvs R).toList 69 HA0.out (yvs ys).toList HCP.out.1 HRG.out HCP.out.2.1 HCP.out.2.2 ?_))
      rw [yvs_putL]
      go_wp2_with fail
      go_roundw
      case rel =>
        have hY := HY.out
        have hL := HRL.out
        have hI := HLT.out
        obtain ⟨y0, y1, y2, y3, e4⟩ := four4 ys hY.1
        have ep : putL R (i * 4) ys = put4 R (i * 4) y0 y1 y2 y3 := by rw [e4, put4_putL _ _ _ _ _ _ (by omega)]
        refine ⟨i + 1, putL R (i * 4) ys, by omega, by go_num, by rw [ep, put4_length]; exact hL, ?_, setRow_heap wr.drew (PW + 1) _ _ _ (0, 0) HA.out, ybelow_row HB2.out.drew (Nat.le_refl _) _⟩
        intro j hj
        rw [ep]
        by_cases h : j < 4 * i
        · rw [put4_below _ _ _ _ _ _ _ (by omega)]; exact HRT.out j h
        · obtain ⟨t, rfl⟩ : ∃ t, j = i * 4 + t := ⟨j - i * 4, by omega⟩
          rw [put4_at _ _ _ _ _ _ _ (by omega) (by omega), ← e4]
          exact hY.2 t (by omega)
      case measure => simp [intOf]; omega
    · have hge : (60 : Int) ≤ (i : Int) := by omega
      have hMeq : R = T := by
        apply List.ext_getElem (by rw [hRL, HTL.out])
        intro j h1 h2
        have := hRT j (by omega)
        simpa [List.getD, h1, h2] using this
      have HA := Lib.hid (show wr.heap[PW + 1]? = some (.cells (yvs T) 69 (0, 0)) by rw [← hMeq]; exact hA)
      have HR1 := Lib.hid (show wr.heap[w.heap.size + 1]? = some (.cells (yvs (zeroY 240)) 69 (0, 0)) from HR.out.below hb (by have := HP.out; omega))
      have SH := Lib.hid (size_rounds T HTL.out)
      have SE := Lib.hid (show (yvs (zeroY 240)).size = (yvs T).size by rw [yvs_size, yvs_size, HTL.out]; simp [zeroY])
      have HB2 := Lib.hid (HB.out.trans (hb.mono (by have := HP.out; omega)))
      clear hlt hA hb hRL hRT hMeq hi
      go_wp2_with (first
        | (with_reducible refine wpList_load_row (o := ⟨some 27, _, _, _, _, _⟩) rfl 69 _ rfl (PW + 1) rfl 69 (yvs T) (0, 0) _ HA.out Try.underlying69 rfl SH.out ?_)
        | (with_reducible refine wpList_store_row (o := ⟨none, .store _ (.tmp 2) _, _, _, _, _⟩) rfl 69 _ _ rfl (w.heap.size + 1) (yvs T) rfl rfl 69 (yvs (zeroY 240)) HR1.out SH.out SE.out (yvs_one _) ?_))
      refine bodyPost_ret (v := .agg (yvs T)) (results_cell_row Try.results25 _ _ (w.heap.size + 1) 69 (yvs T) (0, 0) _ rfl (setRow_heap _ (w.heap.size + 1) _ (yvs T) _ _ HR1.out) Try.underlying69 rfl SH.out) rfl ⟨rfl, ?_⟩
      exact ybelow_row HB2.out (by omega) _
end Go.Proofs.Ytajfooefofafmaa
