/-
  The state behind one block more.
-/
import Derived.Test.YtpmeiadnikenmaaDoorSpread
namespace Go.Proofs.YtpmeiadnikenmaaDoor
open Go.RowKit

/-- The numbers of the rounds. -/
def KS : List (BitVec 32) := [
  0x428a2f98, 0x71374491, 0xb5c0fbcf, 0xe9b5dba5, 0x3956c25b, 0x59f111f1, 0x923f82a4, 0xab1c5ed5,
  0xd807aa98, 0x12835b01, 0x243185be, 0x550c7dc3, 0x72be5d74, 0x80deb1fe, 0x9bdc06a7, 0xc19bf174,
  0xe49b69c1, 0xefbe4786, 0x0fc19dc6, 0x240ca1cc, 0x2de92c6f, 0x4a7484aa, 0x5cb0a9dc, 0x76f988da,
  0x983e5152, 0xa831c66d, 0xb00327c8, 0xbf597fc7, 0xc6e00bf3, 0xd5a79147, 0x06ca6351, 0x14292967,
  0x27b70a85, 0x2e1b2138, 0x4d2c6dfc, 0x53380d13, 0x650a7354, 0x766a0abb, 0x81c2c92e, 0x92722c85,
  0xa2bfe8a1, 0xa81a664b, 0xc24b8b70, 0xc76c51a3, 0xd192e819, 0xd6990624, 0xf40e3585, 0x106aa070,
  0x19a4c116, 0x1e376c08, 0x2748774c, 0x34b0bcb5, 0x391c0cb3, 0x4ed8aa4a, 0x5b9cca4f, 0x682e6ff3,
  0x748f82ee, 0x78a5636f, 0x84c87814, 0x8cc70208, 0x90befffa, 0xa4506ceb, 0xbef9a3f7, 0xc67178f2]
theorem KS_length : KS.length = 64 := by decide
/-- The table lies where the program's variable lies. -/
def KT (w : World) : Prop := 0 < w.heap.size ∧ ∀ i, i < 64 → w.cell? ⟨0, i, none⟩ = some (.int .u32 (wv (KS.getD i 0)))
theorem KT.below {w w' : World} {B : Nat} (h : KT w) (hb : Below B w w') (hB : 0 < B) : KT w' := ⟨Nat.lt_of_lt_of_le h.1 hb.size, fun i hi => (hb.cell (p := ⟨0, i, none⟩) hB).trans (h.2 i hi)⟩
theorem KT.pos {w : World} (h : KT w) : 0 < w.heap.size := h.1

/-- Nothing but draws came between. -/
def Still (w w' : World) : Prop := ∀ B, Below B w w'
theorem Still.refl (w : World) : Still w w := fun B => Below.refl B w
theorem Still.row {w w' : World} (h : Still w w') (k : Nat) : w'.heap[k]? = w.heap[k]? := (h (k + 1)).block k (by omega)

theorem info_n8 : (Tryd.prog.info? 63).map (·.size) = some 8 := by kernel_rfl
theorem size_n8 (l : List (BitVec 32)) (h : l.length = 8) : (Tryd.prog.info? 63).map (·.size) = some (wvs l).size := by rw [info_n8, wvs_size, h]
theorem one_u32 : (Tryd.prog.info? 61).map (·.size) = some 1 := by kernel_rfl
theorem index_n8 (l : List (BitVec 32)) (hl : l.length = 8) (k : Nat) (h : k < 8) (w : World) : (Instr.index 63 (.agg (wvs l)) (.int .i64 (k : Int))).run Tryd.prog w = .ok (.int .u32 (wv (l.getD k 0))) w := by
  obtain ⟨i0, hi, hs⟩ := Option.map_eq_some_iff.1 one_u32
  exact index_agg _ _ _ _ k _ i0 _ Tryd.underlying63 Tryd.underlying61 rfl hi hs h (wvs_at l k (by omega)) w

/-- The first i of x, each with y's added. -/
def sumP (x y : List (BitVec 32)) (i : Nat) : List (BitVec 32) := (List.range 8).map fun j => if j < i then x.getD j 0 + y.getD j 0 else x.getD j 0
theorem sumP_length (x y : List (BitVec 32)) (i : Nat) : (sumP x y i).length = 8 := by simp [sumP]
theorem sumP_zero (x y : List (BitVec 32)) (h : x.length = 8) : sumP x y 0 = x := by
  apply List.ext_getElem (by simp [sumP, h])
  intro j h1 h2
  simp [sumP, h2]
theorem sumP_at (x y : List (BitVec 32)) (i : Nat) (h : i < 8) : (sumP x y i).getD i 0 = x.getD i 0 := by simp [sumP, h]
theorem sumP_set (x y : List (BitVec 32)) (i : Nat) : (sumP x y i).set i (x.getD i 0 + y.getD i 0) = sumP x y (i + 1) := by
  apply List.ext_getElem (by simp [sumP])
  intro j h1 h2
  rw [List.getElem_set]
  simp only [sumP, List.getElem_map, List.getElem_range]
  by_cases hj : i = j
  · subst hj; simp
  · rw [if_neg hj]
    by_cases hl : j < i
    · rw [if_pos hl, if_pos (by omega)]
    · rw [if_neg hl, if_neg (by omega)]
theorem sumP_full (x y : List (BitVec 32)) (hx : x.length = 8) (hy : y.length = 8) : sumP x y 8 = List.zipWith (· + ·) y x := by
  apply List.ext_getElem (by simp [sumP, hx, hy])
  intro j h1 h2
  simp only [sumP, List.length_map, List.length_range] at h1
  simp only [sumP, List.getElem_map, List.getElem_range, List.getElem_zipWith, if_pos h1]
  rw [BitVec.add_comm]
  simp [hx, hy, h1]
theorem round_eq (k w a b c d e f g h : BitVec 32) : round k w [a, b, c, d, e, f, g, h] =
    [h + rot3 e 6 11 25 + pickB e f g + k + w + (rot3 a 2 13 22 + mostB a b c), a, b, c, d + (h + rot3 e 6 11 25 + pickB e f g + k + w), e, f, g] := rfl

set_option maxRecDepth 100000 in
set_option maxHeartbeats 3200000 in
theorem mixed_any (x : List (BitVec 32)) (l : List Int) (w : World) (hx : x.length = 8) (hl : l.length = 64) (hy : Byt l) (hK : KT w) :
    Calls Tryd.prog 34 #[.agg (wvs x), .agg (u8s l)] w fun e w' => e = .returned (.agg (wvs (blockS KS x l))) ∧ Below w.heap.size w w' := by
  have HX := Lib.hid hx
  have HSB := Lib.hid (size_b64 l hl)
  have HSP := Lib.hid (fun W => spread_any l W hl hy)
  have HKT := Lib.hid hK
  clear hx hl hy hK
  go_enter Tryd.func34, Tryd.ntmps34
  go_wp2_with (first
    | (with_reducible refine wpList_load_row (o := ⟨some 19, _, _, _, _, _⟩) rfl 58 _ rfl (w.heap.size + 1) rfl 58 (u8s l) (0, 0) _ (three_blocks w _ _ _).2.1 Tryd.underlying58 rfl HSB.out ?_))
  refine (HSP.out _).mono ?_
  rintro e w1 ⟨rfl, hb1⟩
  obtain ⟨r0, r1, r2, rz, rb⟩ := three_blocks w (.cells (wvs x) 63) (.cells (u8s l) 58) (.cells (wvs (zeros 8)) 63)
  have hb1' : Below (w.heap.size + 3) (((w.alloc (.cells (wvs x) 63)).alloc (.cells (u8s l) 58)).alloc (.cells (wvs (zeros 8)) 63)) w1 := by rw [← rz]; exact hb1
  have HR0 := Lib.hid (show ArrW w1 w.heap.size 63 x from (hb1'.block _ (by omega)).trans r0)
  have HR2 := Lib.hid (show ArrW w1 (w.heap.size + 1 + 1) 63 (zeros 8) from (hb1'.block _ (by omega)).trans r2)
  have HB1 := Lib.hid (rb.trans (hb1'.mono (by omega)))
  have HZ1 := Lib.hid (show w.heap.size + 3 ≤ w1.heap.size by rw [← rz]; exact hb1.size)
  clear r0 r1 r2 rz rb hb1' hb1
  have SW := Lib.hid (size_w64 (sch l 64) (sch_length l 64))
  go_wp2_with (first
    | (with_reducible refine wpList_store_row (o := ⟨none, .store _ (.tmp 5) _, _, _, _, _⟩) rfl 81 _ _ rfl w1.heap.size (wvs (sch l 64)) rfl rfl 81 _ (heap_alloc_new w1 _) SW.out ?c1 (wvs_one (sch l 64)) ?_))
  case c1 => rw [wvs_size, sch_length]; rfl
  refine gen_fresh fun W2 hW => ?_
  obtain ⟨g1, gz, gb⟩ := hW
  have HW2 := Lib.hid (show ArrW W2 w1.heap.size 81 (sch l 64) from g1)
  have hR0 := HR0.out.below gb (by have := HZ1.out; omega)
  have HR0' := Lib.hid hR0
  have HR2' := Lib.hid (HR2.out.below gb (by have := HZ1.out; omega))
  have HB2 := Lib.hid (HB1.out.trans (gb.mono (by have := HZ1.out; omega)))
  have HK2 := Lib.hid (HKT.out.below HB2.out HKT.out.pos)
  have HZ2 := Lib.hid gz
  clear g1 gz gb
  obtain ⟨x0, x1, x2, x3, x4, x5, x6, x7, hxe⟩ : ∃ x0 x1 x2 x3 x4 x5 x6 x7, x = [x0, x1, x2, x3, x4, x5, x6, x7] := by
    match x, HX.out with
    | [a, b, c, d, e, f, g, h], _ => exact ⟨_, _, _, _, _, _, _, _, rfl⟩
  rw [hxe] at hR0
  have HXE := Lib.hid hxe
  have s0 : W2.cell? ⟨w.heap.size, 0, none⟩ = some (.int .u32 (wv x0)) := cell_of_row W2 _ 0 _ _ _ hR0
  have s1 : W2.cell? ⟨w.heap.size, 1, none⟩ = some (.int .u32 (wv x1)) := cell_of_row W2 _ 1 _ _ _ hR0
  have s2 : W2.cell? ⟨w.heap.size, 2, none⟩ = some (.int .u32 (wv x2)) := cell_of_row W2 _ 2 _ _ _ hR0
  have s3 : W2.cell? ⟨w.heap.size, 3, none⟩ = some (.int .u32 (wv x3)) := cell_of_row W2 _ 3 _ _ _ hR0
  have s4 : W2.cell? ⟨w.heap.size, 4, none⟩ = some (.int .u32 (wv x4)) := cell_of_row W2 _ 4 _ _ _ hR0
  have s5 : W2.cell? ⟨w.heap.size, 5, none⟩ = some (.int .u32 (wv x5)) := cell_of_row W2 _ 5 _ _ _ hR0
  have s6 : W2.cell? ⟨w.heap.size, 6, none⟩ = some (.int .u32 (wv x6)) := cell_of_row W2 _ 6 _ _ _ hR0
  have s7 : W2.cell? ⟨w.heap.size, 7, none⟩ = some (.int .u32 (wv x7)) := cell_of_row W2 _ 7 _ _ _ hR0
  clear hR0 hxe
  generalize hP5 : w1.heap.size = P5 at *
  generalize hP2 : w.heap.size = P2 at *
  have HP5 := Lib.hid hP5
  have HP2 := Lib.hid hP2
  clear hP5 hP2
  go_quiet (fail)
  go_wp2_with fail
  refine gen_drewN fun W3 hW3 => ?_
  have HS3 := Lib.hid (show Still W2 W3 from fun B => hW3.2.2 B W2 (Below.refl B W2))
  clear hW3 s0 s1 s2 s3 s4 s5 s6 s7
  go_loopw [37, 6, 7, 8, 9, 10, 11, 12, 13] (fun v37 v6 v7 v8 v9 v10 v11 v12 v13 wr => ∃ (i : Nat) (a b c d e f g h : BitVec 32), i ≤ 64 ∧ v37 = .int .i64 (i : Nat) ∧ v6 = .int .u32 (wv a) ∧ v7 = .int .u32 (wv b) ∧ v8 = .int .u32 (wv c) ∧ v9 = .int .u32 (wv d) ∧ v10 = .int .u32 (wv e) ∧ v11 = .int .u32 (wv f) ∧ v12 = .int .u32 (wv g) ∧ v13 = .int .u32 (wv h) ∧ Hid (rounds KS (sch l 64) i x = [a, b, c, d, e, f, g, h]) ∧ Still W2 wr) (fun v37 _ _ _ _ _ _ _ _ _ => 64 - (intOf v37).toNat)
  case atStart => exact ⟨0, x0, x1, x2, x3, x4, x5, x6, x7, by omega, rfl, rfl, rfl, rfl, rfl, rfl, rfl, rfl, rfl, HXE.out, HS3.out⟩
  case round =>
    obtain ⟨i, a, b, c, d, e, f, g, h, hi, rfl, rfl, rfl, rfl, rfl, rfl, rfl, rfl, rfl, HR, hst⟩ := hrel
    by_cases hlt : i < 64
    · have hiI : (i : Int) < 64 := by omega
      have hi0 : (0 : Int) ≤ (i : Int) := by omega
      have ck : wr.cell? ⟨0, i, none⟩ = some (.int .u32 (wv (KS.getD i 0))) := ((hst 1).cell (p := ⟨0, i, none⟩) Nat.zero_lt_one).trans (HK2.out.2 i hlt)
      have cw : wr.cell? ⟨P5, i, none⟩ = some (.int .u32 (wv ((sch l 64).getD i 0))) := ((hst (P5 + 1)).cell (p := ⟨P5, i, none⟩) (Nat.lt_succ_self _)).trans (HW2.out.cell (by rw [sch_length]; exact hlt))
      have HNX := Lib.hid (show rounds KS (sch l 64) (i + 1) x = round (KS.getD i 0) ((sch l 64).getD i 0) [a, b, c, d, e, f, g, h] by rw [rounds, HR.out])
      generalize KS.getD i 0 = kj at *
      generalize (sch l 64).getD i 0 = wj at *
      have HST := Lib.hid hst
      have HLT := Lib.hid hlt
      have hadd := wv_add
      have haddm := wv_addm
      clear hst hlt hi
      go_wp2_with fail
      go_quiet ((first | (go_at_call 44; exact Calls.quiet_of_same (turns_any e 6 11 25 _ (by omega) (by omega) (by omega) (by omega) (by omega) (by omega))) | (go_at_call 45; exact Calls.quiet_of_same (chosen_any _ _ _ _))))
      go_wp2_with fail
      refine (turns_any a 2 13 22 _ (by omega) (by omega) (by omega) (by omega) (by omega) (by omega)).mono ?_
      rintro e' w5 ⟨rfl, rfl⟩
      go_wp2_with fail
      refine (most_any a b c _).mono ?_
      rintro e' w6 ⟨rfl, rfl⟩
      go_wp2_with fail
      go_roundw
      case rel => exact ⟨i + 1, h + rot3 e 6 11 25 + pickB e f g + kj + wj + (rot3 a 2 13 22 + mostB a b c), a, b, c, d + (h + rot3 e 6 11 25 + pickB e f g + kj + wj), e, f, g, by have := HLT.out; omega, by go_num, rfl, rfl, rfl, rfl, rfl, rfl, rfl, rfl, by rw [← round_eq]; exact HNX.out, fun B => below_drewN (HST.out B) _⟩
      case measure => simp [intOf]; omega
    · have hge : (64 : Int) ≤ (i : Int) := by omega
      have HI := Lib.hid (show i = 64 by omega)
      have HST := Lib.hid hst
      have hd : decide ((i : Int) < 64) = false := by simpa using hge
      clear hlt hi hst
      go_wp2_with fail
      have HIX := Lib.hid (fun (k : Nat) (hk : k < 8) (w : World) => (show (Instr.index 63 (.agg #[.int .u32 (wv a), .int .u32 (wv b), .int .u32 (wv c), .int .u32 (wv d), .int .u32 (wv e), .int .u32 (wv f), .int .u32 (wv g), .int .u32 (wv h)]) (.int .i64 (k : Int))).run Tryd.prog w = .ok (.int .u32 (wv ([a, b, c, d, e, f, g, h].getD k 0))) w from index_n8 [a, b, c, d, e, f, g, h] rfl k hk w))
      obtain ⟨Y, hY⟩ : ∃ Y, Y = [a, b, c, d, e, f, g, h] := ⟨_, rfl⟩
      rw [← hY] at HIX
      have HY := Lib.hid hY
      clear hY hge hd
      have HB3 := Lib.hid (HST.out P2)
      have HR3 := Lib.hid (show ArrW wr P2 63 x from (HST.out.row P2).trans HR0'.out)
      have HR4 := Lib.hid (show ArrW wr (P2 + 1 + 1) 63 (zeros 8) from (HST.out.row _).trans HR2'.out)
      clear HST
      go_loopw [86] (fun v86 wx => ∃ k : Nat, k ≤ 8 ∧ v86 = .int .i64 (k : Nat) ∧ ArrW wx P2 63 (sumP x Y k) ∧ ArrW wx (P2 + 1 + 1) 63 (zeros 8) ∧ Below P2 w wx) (fun v _ => 8 - (intOf v).toNat)
      case atStart => exact ⟨0, by omega, rfl, by rw [sumP_zero _ _ HX.out]; exact HR3.out, HR4.out, HB2.out.trans HB3.out⟩
      case round =>
        obtain ⟨k, hk, rfl, hA, hC, hb⟩ := hrel
        by_cases hlt : k < 8
        · have hkI : (k : Int) < 8 := by omega
          have hk0 : (0 : Int) ≤ (k : Int) := by omega
          have hix := HIX.out k hlt
          have ck := hA.cell (k := k) (by rw [sumP_length]; exact hlt)
          rw [sumP_at _ _ _ hlt] at ck
          have fk := hA.free k
          have hset := sumP_set x Y k
          generalize x.getD k 0 = p at *
          generalize Y.getD k 0 = q at *
          have HSET := Lib.hid hset
          have HLT := Lib.hid hlt
          have HA := Lib.hid hA
          have HC := Lib.hid hC
          have HB := Lib.hid hb
          have hadd := wv_add
          have haddm := wv_addm
          clear hset hlt hA hb hk hC
          go_wp2_with fail
          go_roundw
          case rel => exact ⟨k + 1, by have := HLT.out; omega, by go_num, by have e := HA.out.set k (p + q); rw [HSET.out] at e; exact e, (Below.heap_setCell _ _ _ _ (show P2 + 1 + 1 ≠ P2 by omega)).trans HC.out, HB.out.setCell (p := ⟨P2, k, none⟩) (Nat.le_refl _) _⟩
          case measure => simp [intOf]; omega
        · have hge : (8 : Int) ≤ (k : Int) := by omega
          have hfin : sumP x Y k = blockS KS x l := by
            have hYl : Y.length = 8 := by rw [HY.out]; rfl
            rw [show k = 8 by omega, sumP_full x Y HX.out hYl]
            unfold blockS
            have e := HR.out
            rw [HI.out] at e
            rw [e, ← HY.out]
          rw [hfin] at hA
          have HA := Lib.hid (show wr.heap[P2]? = some (.cells (wvs (blockS KS x l)) 63 (0, 0)) from hA)
          have HC := Lib.hid (show wr.heap[P2 + 1 + 1]? = some (.cells (wvs (zeros 8)) 63 (0, 0)) from hC)
          have SN := Lib.hid (size_n8 (blockS KS x l) (by rw [← hfin, sumP_length]))
          have SE := Lib.hid (show (wvs (zeros 8)).size = (wvs (blockS KS x l)).size by rw [wvs_size, wvs_size, ← hfin, sumP_length]; rfl)
          have HB := Lib.hid hb
          clear hlt hA hb hk hC hfin
          go_wp2_with (first
            | (with_reducible refine wpList_load_row (o := ⟨some 97, _, _, _, _, _⟩) rfl 63 _ rfl P2 rfl 63 (wvs (blockS KS x l)) (0, 0) _ HA.out Tryd.underlying63 rfl SN.out ?_)
            | (with_reducible refine wpList_store_row (o := ⟨none, .store _ (.tmp 4) _, _, _, _, _⟩) rfl 63 _ _ rfl (P2 + 1 + 1) (wvs (blockS KS x l)) rfl rfl 63 (wvs (zeros 8)) HC.out SN.out SE.out (wvs_one _) ?_))
          refine bodyPost_ret (v := .agg (wvs (blockS KS x l))) (results_cell_row Tryd.results34 _ _ (P2 + 1 + 1) 63 (wvs (blockS KS x l)) (0, 0) _ rfl (setRow_heap _ (P2 + 1 + 1) _ (wvs (blockS KS x l)) _ _ HC.out) Tryd.underlying63 rfl SN.out) rfl ⟨rfl, ?_⟩
          rw [HP2.out]
          exact HB.out.trans ⟨rfl, rfl, rfl, by simp, fun k hk => setRow_other _ _ k _ (by omega)⟩
end Go.Proofs.YtpmeiadnikenmaaDoor
