/-
  The power of a number of 64 bits, as the Go text makes it of four words, is that power modulo 2^128.
-/
import Derived.Test.YtdbemapidecdkaaTimes
namespace Go.Proofs.Ytdbemapidecdkaa
open Go.RowKit

def wd (x : Nat) : List Nat := [x % 4294967296, x / 4294967296 % 4294967296, 0, 0]
theorem wd_length (x : Nat) : (wd x).length = 4 := rfl
theorem wd_small (x : Nat) : Small (wd x) := by
  intro d hd
  simp only [wd, List.mem_cons, List.not_mem_nil, or_false] at hd
  omega
theorem wd_val (x : Nat) (h : x < 18446744073709551616) : val (wd x) = x := by simp only [wd, val]; omega

set_option maxHeartbeats 400000 in
theorem widen_any (x : Nat) (w : World) (h : x < 18446744073709551616) :
    Calls Try.prog 34 #[.int .u64 x] w fun e w' => e = .returned (.agg (wordsOf (wd x))) ∧ Below w.heap.size w w' := by
  have e1 : ((x : Int) % 4294967296) = ((x % 4294967296 : Nat) : Int) := by simp
  have e2 : ((x : Int) / 4294967296) = ((x / 4294967296 % 4294967296 : Nat) : Int) := by omega
  have H1 := Lib.hid e1
  have H2 := Lib.hid e2
  clear e1 e2
  go_enter Try.func34, Try.ntmps34
  go_wp2
  refine bodyPost_ret (v := .agg (wordsOf (wd x))) ?_ rfl ⟨rfl, (Below.refl _ _).alloc (Nat.le_refl _) _⟩
  simp only [wordsOf, wd, List.map_cons, List.map_nil]
  rw [← H1.out, ← H2.out]
  simp [results, Try.results34, go_sem]

set_option maxHeartbeats 800000 in
theorem power_any (x k : Nat) (w : World) (h : x < 18446744073709551616) (hk1 : 1 ≤ k) (hk : k ≤ 1000) :
    Calls Try.prog 33 #[.int .u64 x, .int .i64 k] w fun e w' => ∃ xs, e = .returned (.agg (wordsOf xs)) ∧ xs.length = 4 ∧ Small xs ∧ val xs = x ^ k % 4294967296 ^ 4 ∧ Below w.heap.size w w' := by
  go_enter Try.func33, Try.ntmps33
  go_wp2_with fail
  refine (widen_any x _ h).mono ?_
  rintro e w1 ⟨rfl, hb1⟩
  have s1 := size_words (wd x) rfl
  have s2 : (#[Value.int .u32 0, Value.int .u32 0, Value.int .u32 0, Value.int .u32 0]).size = (wordsOf (wd x)).size := rfl
  have o1 := words_one (wd x)
  have F1 := Lib.hid (heap_alloc_new w1 (.cells #[Value.int .u32 0, Value.int .u32 0, Value.int .u32 0, Value.int .u32 0] 48))
  have F2 := Lib.hid (setRow_heap (w1.alloc (.cells #[Value.int .u32 0, Value.int .u32 0, Value.int .u32 0, Value.int .u32 0] 48)) w1.heap.size _ (wordsOf (wd x)) _ _ F1.out)
  have F3 := Lib.hid (show (((w1.alloc (.cells #[Value.int .u32 0, Value.int .u32 0, Value.int .u32 0, Value.int .u32 0] 48)).setRow w1.heap.size (wordsOf (wd x))).alloc (.cells #[Value.int .u32 0, Value.int .u32 0, Value.int .u32 0, Value.int .u32 0] 48)).heap[w1.heap.size + 1]? = some (.cells #[Value.int .u32 0, Value.int .u32 0, Value.int .u32 0, Value.int .u32 0] 48) from by
    have := heap_alloc_new ((w1.alloc (.cells #[Value.int .u32 0, Value.int .u32 0, Value.int .u32 0, Value.int .u32 0] 48)).setRow w1.heap.size (wordsOf (wd x))) (.cells #[Value.int .u32 0, Value.int .u32 0, Value.int .u32 0, Value.int .u32 0] 48)
    simpa using this)
  go_wp2_with (first
    | (with_reducible refine wpList_store_row (o := ⟨none, .store _ (.tmp 5) _, _, _, _, _⟩) rfl 48 _ _ rfl w1.heap.size _ rfl rfl _ _ F1.out s1 s2 o1 ?_)
    | (with_reducible refine wpList_load_row (o := ⟨some 9, _, _, _, _, _⟩) rfl 48 _ rfl w1.heap.size rfl _ _ _ _ F2.out Try.underlying48 rfl s1 ?_)
    | (with_reducible refine wpList_store_row (o := ⟨none, .store _ (.tmp 6) _, _, _, _, _⟩) rfl 48 _ _ rfl (w1.heap.size + 1) _ rfl rfl _ _ F3.out s1 s2 o1 ?_))
  have hs0 := hb1.size
  have hs0 : w.heap.size + 1 ≤ w1.heap.size := by simpa using hs0
  obtain ⟨W3, hW3⟩ : ∃ W, W = ((((w1.alloc (.cells #[Value.int .u32 0, Value.int .u32 0, Value.int .u32 0, Value.int .u32 0] 48)).setRow w1.heap.size (wordsOf (wd x))).alloc (.cells #[Value.int .u32 0, Value.int .u32 0, Value.int .u32 0, Value.int .u32 0] 48)).setRow (w1.heap.size + 1) (wordsOf (wd x))) := ⟨_, rfl⟩
  have F5 : Arr W3 (w1.heap.size + 1) (wd x) := by rw [hW3]; exact setRow_heap _ _ _ (wordsOf (wd x)) _ _ F3.out
  have F4 : Arr W3 w1.heap.size (wd x) := by
    rw [hW3]; unfold Arr
    rw [setRow_other _ _ _ _ (by omega), Below.heap_alloc _ _ _ (by simp)]
    exact F2.out
  have F6 : Arr W3 w.heap.size [0, 0, 0, 0] := by
    rw [hW3]; unfold Arr
    rw [setRow_other _ _ _ _ (by omega), Below.heap_alloc _ _ _ (by simp; omega), setRow_other _ _ _ _ (by omega), Below.heap_alloc _ _ _ (by omega), hb1.block _ (by simp)]
    exact heap_alloc_new w (.cells #[Value.int .u32 0, Value.int .u32 0, Value.int .u32 0, Value.int .u32 0] 48)
  have hbel : Below w.heap.size w W3 := by
    rw [hW3]
    exact below_row ((below_row ((((Below.refl w.heap.size w).alloc (Nat.le_refl _) (.cells #[Value.int .u32 0, Value.int .u32 0, Value.int .u32 0, Value.int .u32 0] 48)).trans (hb1.mono (by simp))).alloc (by omega) (.cells #[Value.int .u32 0, Value.int .u32 0, Value.int .u32 0, Value.int .u32 0] 48)) (by omega) _).alloc (by simp; omega) (.cells #[Value.int .u32 0, Value.int .u32 0, Value.int .u32 0, Value.int .u32 0] 48)) (by omega) _
  have hsz : W3.heap.size = w1.heap.size + 2 := by rw [hW3]; simp
  rw [← hW3]
  clear hW3 F1 F2 F3 hb1
  generalize hP : w1.heap.size = P at *
  clear hP
  go_loopw [12] (fun v wr => ∃ t xs, t + 1 ≤ k ∧ v = .int .i64 (t : Nat) ∧ xs.length = 4 ∧ Small xs ∧ Arr wr (P + 1) xs ∧ Below (P + 1) W3 wr ∧ val xs % 4294967296 ^ 4 = x ^ (t + 1) % 4294967296 ^ 4) (fun v _ => k - (intOf v).toNat)
  case atStart => exact ⟨0, wd x, by omega, rfl, rfl, wd_small x, F5, Below.refl _ _, by rw [wd_val x h]; simp⟩
  case round =>
    obtain ⟨t, xs, ht, rfl, hxl, hxs, hX, hbx, hv⟩ := hrel
    have g1 := size_words xs hxl
    have HX := Lib.hid (show wr.heap[P + 1]? = some (.cells (wordsOf xs) 48 (0, 0)) from hX)
    have HB := Lib.hid (show wr.heap[P]? = some (.cells (wordsOf (wd x)) 48 (0, 0)) from F4.below hbx (by omega))
    have HR := Lib.hid (show wr.heap[w.heap.size]? = some (.cells (wordsOf [0, 0, 0, 0]) 48 (0, 0)) from F6.below hbx (by omega))
    have HV := Lib.hid hv
    have hzr := hbx.size
    clear hX hv F4 F5 F6
    by_cases hlt : t + 1 < k
    · go_wp2_with (first
        | (with_reducible refine wpList_load_row (o := ⟨some 14, _, _, _, _, _⟩) rfl 48 _ rfl (P + 1) rfl _ _ _ _ HX.out Try.underlying48 rfl g1 ?_)
        | (with_reducible refine wpList_load_row (o := ⟨some 15, _, _, _, _, _⟩) rfl 48 _ rfl P rfl _ _ _ _ HB.out Try.underlying48 rfl s1 ?_))
      refine (times_raw xs (wd x) _ hxl rfl hxs (wd_small x)).mono ?_
      rintro e w5 ⟨ys, rfl, hyl, hys, hvy, hb5⟩
      have g2 := size_words ys hyl
      have o2 := words_one ys
      have g3 : (wordsOf xs).size = (wordsOf ys).size := by simp [wordsOf, hxl, hyl]
      have HX5 := Lib.hid ((hb5.block (P + 1) (by omega)).trans HX.out)
      have HVY := Lib.hid hvy
      have hz5 := hb5.size
      clear hvy
      go_wp2_with (first
        | (with_reducible refine wpList_store_row (o := ⟨none, .store _ (.tmp 6) _, _, _, _, _⟩) rfl 48 _ _ rfl (P + 1) _ rfl rfl _ _ HX5.out g2 g3 o2 ?_))
      go_roundw
      case rel =>
        refine ⟨t + 1, ys, by omega, by go_num, hyl, hys, setRow_heap _ _ _ (wordsOf ys) _ _ HX5.out, below_row (hbx.trans (hb5.mono (by omega))) (Nat.le_refl _) _, ?_⟩
        rw [HVY.out, wd_val x h, Nat.mul_mod, HV.out, ← Nat.mul_mod, ← Nat.pow_succ]
      case measure => simp [intOf]; omega
    · have o2 := words_one xs
      have g3 : (wordsOf [0, 0, 0, 0]).size = (wordsOf xs).size := by simp [wordsOf, hxl]
      go_wp2_with (first
        | (with_reducible refine wpList_load_row (o := ⟨some 18, _, _, _, _, _⟩) rfl 48 _ rfl (P + 1) rfl _ _ _ _ HX.out Try.underlying48 rfl g1 ?_)
        | (with_reducible refine wpList_store_row (o := ⟨none, .store _ (.tmp 4) _, _, _, _, _⟩) rfl 48 _ _ rfl w.heap.size _ rfl rfl _ _ HR.out g1 g3 o2 ?_))
      have hbw : Below w.heap.size w (wr.setRow w.heap.size (wordsOf xs)) := below_row ((hbel.trans (hbx.mono (by omega)))) (by omega) _
      refine bodyPost_ret (v := .agg (wordsOf xs)) (results_cell_row (ty := 48) rfl _ _ w.heap.size _ (wordsOf xs) _ _ rfl (setRow_heap wr w.heap.size _ (wordsOf xs) _ _ HR.out) Try.underlying48 rfl g1) rfl ⟨xs, rfl, hxl, hxs, ?_, hbw⟩
      have e := HV.out
      have e2 := val_lt xs hxs
      rw [hxl] at e2
      obtain rfl : k = t + 1 := by omega
      rw [← e, Nat.mod_eq_of_lt e2]
end Go.Proofs.Ytdbemapidecdkaa
