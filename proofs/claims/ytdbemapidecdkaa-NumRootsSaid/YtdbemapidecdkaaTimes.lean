/-
  The product of two numbers of four 32-bit words, as the Go text makes it, is their product modulo 2^128.
-/
import Derived.Test.YtdbemapidecdkaaRows
import Derived.WalkKit
import Derived.WalkSpells
import Derived.WalkLawsBesides
import Derived.Deep.QuietTactic
import Derived.BigQuiet
import Derived.Lib.Hide
import Derived.Laws.Tables
import Derived.WalkSmall
import Derived.Test.YtdbemapidecdkaaMath
import Derived.Test.YtdbemapidecdkaaWide
namespace Go.Proofs.Ytdbemapidecdkaa
open Go.RowKit

/-- Words in memory: block g holds them. -/
def wordsOf (xs : List Nat) : Array Value := (xs.map fun n : Nat => Value.int .u32 (n : Int)).toArray
def Arr (w : World) (g : Nat) (xs : List Nat) : Prop := w.heap[g]? = some (.cells (wordsOf xs) 48 (0, 0))
def Small (xs : List Nat) : Prop := ∀ d ∈ xs, d < 4294967296

theorem Arr.cell {w : World} {g : Nat} {xs : List Nat} (h : Arr w g xs) {k : Nat} (hk : k < xs.length) : w.cell? ⟨g, k, none⟩ = some (.int .u32 ((xs[k]?.getD 0 : Nat) : Int)) := by
  rw [cell_of_row w g k _ _ _ h]
  simp [wordsOf, hk]
theorem Arr.free {w : World} {g : Nat} {xs : List Nat} (h : Arr w g xs) (k : Nat) : w.frozen? ⟨g, k, none⟩ = false := frozen_of_row w g k _ _ h
theorem Arr.set {w : World} {g : Nat} {xs : List Nat} (h : Arr w g xs) (k v : Nat) : Arr (w.setCell ⟨g, k, none⟩ (.int .u32 (v : Int))) g (xs.set k v) := by
  unfold Arr
  rw [heap_setCell_same w g k _ _ _ h]
  congr 2
  simp only [wordsOf, List.setIfInBounds_toArray, List.map_set]
theorem Arr.other {w : World} {g : Nat} {xs : List Nat} (h : Arr w g xs) (a : Addr) (v : Value) (hne : g ≠ a.block) : Arr (w.setCell a v) g xs := by
  unfold Arr
  rw [heap_setCell_other w a g v hne]; exact h
theorem Arr.below {w' w : World} {g B : Nat} {xs : List Nat} (h : Arr w g xs) (hb : Below B w w') (hg : g < B) : Arr w' g xs := (hb.block g hg).trans h
theorem small_at {xs : List Nat} (h : Small xs) (k : Nat) : xs[k]?.getD 0 < 4294967296 := by
  by_cases hk : k < xs.length
  · simp only [List.getElem?_eq_getElem hk, Option.getD_some]
    exact h _ (List.getElem_mem hk)
  · simp [List.getElem?_eq_none (by omega : xs.length ≤ k)]
theorem small_set {xs : List Nat} (h : Small xs) (k v : Nat) (hv : v < 4294967296) : Small (xs.set k v) := by
  intro d hd
  rcases List.mem_or_eq_of_mem_set hd with h' | rfl
  · exact h d h'
  · exact hv
theorem mul_small (a b : Nat) (ha : a < 4294967296) (hb : b < 4294967296) : a * b ≤ 18446744065119617025 := by
  have := Nat.mul_le_mul (Nat.le_of_lt_succ ha : a ≤ 4294967295) (Nat.le_of_lt_succ hb : b ≤ 4294967295)
  simpa using this

theorem four (w : World) (A B C D : Obj) : ((((w.alloc A).alloc B).alloc C).alloc D).heap[w.heap.size + 1 + 1 + 1]? = some D ∧ ((((w.alloc A).alloc B).alloc C).alloc D).heap[w.heap.size + 1 + 1]? = some C ∧
    ((((w.alloc A).alloc B).alloc C).alloc D).heap[w.heap.size + 1]? = some B ∧ ((((w.alloc A).alloc B).alloc C).alloc D).heap.size = w.heap.size + 4 ∧ Below w.heap.size w ((((w.alloc A).alloc B).alloc C).alloc D) := by
  refine ⟨?_, ?_, ?_, ?_, ((((Below.refl w.heap.size w).alloc (Nat.le_refl _) A).alloc (by simp) B).alloc (by simp; omega) C).alloc (by simp; omega) D⟩
  · show ((((w.heap.push A).push B).push C).push D)[w.heap.size + 1 + 1 + 1]? = _
    simp [Array.getElem_push]
  · show ((((w.heap.push A).push B).push C).push D)[w.heap.size + 1 + 1]? = _
    simp [Array.getElem_push]
  · show ((((w.heap.push A).push B).push C).push D)[w.heap.size + 1]? = _
    simp [Array.getElem_push]
  · simp

theorem below_row {B : Nat} {a w : World} (h : Below B a w) {g : Nat} (hg : B ≤ g) (cs : Array Value) : Below B a (w.setRow g cs) :=
  h.trans ⟨rfl, rfl, rfl, by simp, fun k hk => setRow_other w g k cs (by omega)⟩
theorem info_wide : (Try.prog.info? 48).map (fun i => i.size) = some 4 := by kernel_rfl
theorem size_words (xs : List Nat) (h : xs.length = 4) : (Try.prog.info? 48).map (fun i => i.size) = some (wordsOf xs).size := by
  rw [info_wide]; simp [wordsOf, h]
theorem words_one (xs : List Nat) : (wordsOf xs).all (·.oneCell') = true := by
  rw [Array.all_eq_true_iff_forall_mem]
  intro v hv
  simp only [wordsOf, List.mem_toArray, List.mem_map] at hv
  obtain ⟨n, _, rfl⟩ := hv
  rfl
/-- What the inner loop keeps. -/
def Inn (W0 : World) (P3 : Nat) (bs : List Nat) (V a i : Nat) (v8 v17 : Value) (wr : World) : Prop :=
  ∃ j c xs, j ≤ 4 - i ∧ v17 = .int .i64 (j : Nat) ∧ v8 = .int .u64 (c : Nat) ∧ c < 4294967296 ∧ xs.length = 4 ∧ Small xs ∧ Arr wr P3 xs ∧ Below P3 W0 wr ∧
    val xs + c * 4294967296 ^ (i + j) = V + a * 4294967296 ^ i * val (bs.take j)

set_option maxHeartbeats 800000 in
theorem times_raw (us bs : List Nat) (w : World) (has : us.length = 4) (hbs : bs.length = 4) (ha : Small us) (hb : Small bs) :
    Calls Try.prog 35 #[.agg (wordsOf us), .agg (wordsOf bs)] w
      fun e w' => ∃ xs, e = .returned (.agg (wordsOf xs)) ∧ xs.length = 4 ∧ Small xs ∧ val xs % 4294967296 ^ 4 = val us * val bs % 4294967296 ^ 4 ∧ Below w.heap.size w w' := by
  have hidx : ∀ (k : Nat) (w : World), k < 4 → (Instr.index 48 (.agg (wordsOf us)) (.int .i64 (k : Int))).run Try.prog w = .ok (.int .u32 ((us[k]?.getD 0 : Nat) : Int)) w := by
    intro k w hk
    match us, has with
    | [x0, x1, x2, x3], _ =>
      match k, hk with
      | 0, _ | 1, _ | 2, _ | 3, _ => first | rfl | (go_simp; done) | (go_simp; rfl)
  obtain ⟨a0, a1, a2, a3, hu⟩ : ∃ a0 a1 a2 a3, us = [a0, a1, a2, a3] := by
    match us, has with
    | [x0, x1, x2, x3], _ => exact ⟨_, _, _, _, rfl⟩
  obtain ⟨b0, b1, b2, b3, hv⟩ : ∃ b0 b1 b2 b3, bs = [b0, b1, b2, b3] := by
    match bs, hbs with
    | [x0, x1, x2, x3], _ => exact ⟨_, _, _, _, rfl⟩
  have eu : wordsOf us = #[.int .u32 a0, .int .u32 a1, .int .u32 a2, .int .u32 a3] := by rw [hu]; rfl
  have ev : wordsOf bs = #[.int .u32 b0, .int .u32 b1, .int .u32 b2, .int .u32 b3] := by rw [hv]; rfl
  have EV := Lib.hid ev
  rw [eu] at hidx ⊢
  rw [ev]
  clear hu hv eu ev
  have HI := Lib.hid hidx
  clear hidx
  go_enter Try.func35, Try.ntmps35
  go_wp2
  obtain ⟨h3, h2, h1, hsz, hbel⟩ := four w (Obj.cells #[.int .u32 a0, .int .u32 a1, .int .u32 a2, .int .u32 a3] 48) (Obj.cells #[.int .u32 b0, .int .u32 b1, .int .u32 b2, .int .u32 b3] 48)
    (Obj.cells #[.int .u32 0, .int .u32 0, .int .u32 0, .int .u32 0] 48) (Obj.cells #[.int .u32 0, .int .u32 0, .int .u32 0, .int .u32 0] 48)
  generalize ((((w.alloc (Obj.cells #[.int .u32 a0, .int .u32 a1, .int .u32 a2, .int .u32 a3] 48)).alloc (Obj.cells #[.int .u32 b0, .int .u32 b1, .int .u32 b2, .int .u32 b3] 48)).alloc
     (Obj.cells #[.int .u32 0, .int .u32 0, .int .u32 0, .int .u32 0] 48)).alloc (Obj.cells #[.int .u32 0, .int .u32 0, .int .u32 0, .int .u32 0] 48)) = W0 at *
  have hA : Arr W0 (w.heap.size + 1 + 1 + 1) [0, 0, 0, 0] := h3
  have hR : Arr W0 (w.heap.size + 1 + 1) [0, 0, 0, 0] := h2
  have hB : Arr W0 (w.heap.size + 1) bs := by unfold Arr; rw [EV.out]; exact h1
  clear h1 h2 h3
  obtain ⟨P3, hP3⟩ : ∃ P, P = w.heap.size + 1 + 1 + 1 := ⟨_, rfl⟩
  obtain ⟨P2, hP2⟩ : ∃ P, P = w.heap.size + 1 + 1 := ⟨_, rfl⟩
  obtain ⟨P1, hP1⟩ : ∃ P, P = w.heap.size + 1 := ⟨_, rfl⟩
  rw [← hP3, ← hP2, ← hP1]
  rw [← hP3] at hA
  rw [← hP2] at hR
  rw [← hP1] at hB
  have hlt : w.heap.size < P1 ∧ P1 < P2 ∧ P2 < P3 ∧ P3 < W0.heap.size := by omega
  clear hP1 hP2 hP3 hsz
  obtain ⟨l0, l1, l2, l3⟩ := hlt
  go_loopw [11] (fun v11 wr => ∃ i xs, i ≤ 4 ∧ v11 = .int .i64 (i : Nat) ∧ xs.length = 4 ∧ Small xs ∧ Arr wr P3 xs ∧ Below P3 W0 wr ∧ val xs % 4294967296 ^ 4 = val (us.take i) * val bs % 4294967296 ^ 4) (fun v _ => 4 - (intOf v).toNat)
  case atStart => exact ⟨0, [0, 0, 0, 0], by omega, rfl, rfl, by simp [Small], hA, Below.refl _ _, by simp [val]⟩
  case round =>
    obtain ⟨i, xs, hi, rfl, hxl, hxs, hX, hbx, hv⟩ := hrel
    by_cases h4 : i < 4
    · obtain ⟨a, hae⟩ : ∃ a, us[i]?.getD 0 = a := ⟨_, rfl⟩
      have hix := fun w => HI.out i w h4
      have hui := small_at ha i
      rw [hae] at hix hui
      have HAE := Lib.hid hae
      have HXS := Lib.hid hX
      have HV := Lib.hid hv
      clear hae hX hv
      go_wp2_with fail
      clear hix
      go_loopw [8, 17] (fun v8 v17 wr => Inn W0 P3 bs (val xs) a i v8 v17 wr) (fun _ v17 _ => 4 - i - (intOf v17).toNat)
      case atStart => exact ⟨0, 0, xs, by omega, rfl, rfl, by omega, hxl, hxs, HXS.out, hbx, by simp [val]⟩
      case round =>
        obtain ⟨j, c, ys, hj, rfl, rfl, hc, hyl, hys, hY, hby, hvv⟩ := hrel
        by_cases hj4 : j < 4 - i
        · obtain ⟨b, hbe⟩ : ∃ b, bs[j]?.getD 0 = b := ⟨_, rfl⟩
          obtain ⟨p, hpe⟩ : ∃ p, ys[i + j]?.getD 0 = p := ⟨_, rfl⟩
          have c1 := (hB.below hby (by omega)).cell (k := j) (by omega)
          have c2 := hY.cell (k := i + j) (by omega)
          have f2 := hY.free (i + j)
          have hbl := small_at hb j
          have hpl := small_at hys (i + j)
          rw [hbe] at c1 hbl
          rw [hpe] at c2 hpl
          have m1 := mul_small a b hui hbl
          have m2 : (0 : Int) ≤ (a : Int) * (b : Int) := Int.mul_nonneg (by omega) (by omega)
          have m3 : (a : Int) * (b : Int) ≤ 18446744065119617025 := by omega
          have HBE := Lib.hid hbe
          have HPE := Lib.hid hpe
          have HVV := Lib.hid hvv
          have HY := Lib.hid hY
          clear hbe hpe hvv hY
          go_wp2_with fail
          go_quiet (fail)
          go_wp2_with fail
          go_roundw
          case rel =>
            refine ⟨j + 1, (c + (a * b + p)) / 4294967296, ys.set (i + j) ((c + (a * b + p)) % 4294967296), by omega, by go_num, by go_num, by omega, by simpa using hyl, small_set hys _ _ (by omega), ?_, ?_, inner_step ys bs (val xs) a i j c b p (by omega) (by omega) HBE.out HPE.out HVV.out⟩
            · have e : ((c : Int) + ((a : Int) * b + p)) % 4294967296 = (((c + (a * b + p)) % 4294967296 : Nat) : Int) := by simp
              rw [e]; exact Arr.set (w := _) HY.out (i + j) _
            · exact (below_drewN hby nq).setCell (Nat.le_refl _) _
          case measure => simp [intOf]; omega
        · obtain rfl : j = 4 - i := by omega
          have HVV := Lib.hid hvv
          clear hvv
          go_wp2_with fail
          go_roundw
          case rel =>
            exact ⟨i + 1, ys, by omega, by go_num, hyl, hys, hY, hby, outer_step us bs ys (val xs) a i c (by omega) HAE.out (by omega) hbs HV.out (by have h := HVV.out; rwa [show i + (4 - i) = 4 from by omega] at h)⟩
          case measure => simp [intOf]; omega
    · have hi4 : 4 ≤ i := by omega
      have hR' : Arr wr P2 [0, 0, 0, 0] := hR.below hbx (by omega)
      have HV := Lib.hid hv
      clear hv
      have s1 := size_words xs hxl
      have s2 : (wordsOf [0, 0, 0, 0]).size = (wordsOf xs).size := by simp [wordsOf, hxl]
      have w1 := words_one xs
      have HX2 := Lib.hid (show wr.heap[P3]? = some (.cells (wordsOf xs) 48 (0, 0)) from hX)
      have HR2 := Lib.hid (show wr.heap[P2]? = some (.cells (wordsOf [0, 0, 0, 0]) 48 (0, 0)) from hR')
      clear hX hR'
      go_wp2_with (first | (with_reducible refine wpList_load_row (o := ⟨some 46, _, _, _, _, _⟩) rfl 48 _ rfl P3 rfl _ _ _ _ HX2.out Try.underlying48 rfl s1 ?_) | (with_reducible refine wpList_store_row (o := ⟨none, _, _, _, _, _⟩) rfl 48 _ _ rfl P2 _ rfl rfl _ _ HR2.out s1 s2 w1 ?_))
      have hbw : Below w.heap.size w (wr.setRow P2 (wordsOf xs)) := below_row ((hbel.trans (hbx.mono (by omega)))) (by omega) _
      refine bodyPost_ret (v := .agg (wordsOf xs)) (results_cell_row (ty := 48) rfl _ _ P2 _ (wordsOf xs) _ _ rfl (setRow_heap wr P2 _ (wordsOf xs) _ _ HR2.out) Try.underlying48 rfl s1) rfl ⟨xs, rfl, hxl, hxs, ?_, hbw⟩
      have := HV.out
      rwa [List.take_of_length_le (by omega)] at this
end Go.Proofs.Ytdbemapidecdkaa
