/-
  'NodeCuts' returns true at every input, and each argument reads behind the call as it read before. Conditions: none.
-/
import Derived.Test.YtcgddhainmnebaaRows
import Derived.Test.YtcgddhainmnebaaAes0
import Derived.Test.YtcgddhainmnebaaNm
namespace Go.Proofs.Ytcgddhainmnebaa.nodeCuts
open Go.ChangeShapes Go.WideShapes Go.ChangeAt Go.RowKit
set_option linter.unusedVariables false

theorem lit_nob (W : World) : (Instr.buildSlice 28 0 #[]).run Try.prog W = .ok (.slice (some ⟨W.heap.size, 0, none⟩) 0 0) (W.alloc (.cells #[] 5)) := by
  obtain ⟨i, hi, hs⟩ := Option.map_eq_some_iff.1 (show (Try.prog.info? 5).map (·.size) = some 1 by kernel_rfl)
  simp [Instr.buildSlice, run_underlying Try.underlying28, sizeOf, typeInfo, hi, Instr.fill, newRow]
  exact congrArg (fun x => W.alloc (Obj.cells x 5)) (Array.eq_empty_of_size_eq_zero (by simp))
/-- A row of one's own out of any bytes. -/
theorem copied (w : World) (v : Value) (l : List Int) (h : BS w v l) (h63 : l.length ≤ 1000000) : ∃ a c w', (Builtin.append_ #[28, 28] 28 #[.slice (some ⟨w.heap.size, 0, none⟩) 0 0, v]).run Try.prog (w.alloc (.cells #[] 5)) = .ok (.slice a l.length c) w' ∧ w'.ownsRow w.heap.size 5 1 (.slice a l.length c) l.length (l.map (Value.int .u8)) ∧ Below w.heap.size w w' := by
  have hb := (Below.refl w.heap.size w).alloc (Nat.le_refl _) (.cells #[] 5)
  have ho := World.ownsRow_lit (base := w.heap.size) (e := 5) (size := 1) w #[] 0 (Nat.le_refl _) (by unfold maxLen; omega) rfl
  obtain ⟨v', w', h1, h2, h3, _⟩ := run_append_BS_at (w.alloc (.cells #[] 5)) w.heap.size 0 (.slice (some ⟨w.heap.size, 0, none⟩) 0 0) v [] l ho (h.kept hb) (by omega) hb.size
  rw [Nat.zero_add] at h2
  obtain ⟨a, c, rfl⟩ := own_shape8 h2
  exact ⟨a, c, w', h1, by simpa using h2, hb.trans (grown_below h3 hb.size (fun g e => by simp [Value.ownBlock] at e; omega))⟩
theorem own_set {w : World} {B : Nat} {a : Option Addr} {n c : Nat} {l : List Int} (h : w.ownsRow B 5 1 (.slice a n c) n (l.map (Value.int .u8))) (hl : l.length = n) (hy : Byt l) (i : Nat) (hi : i < n) (b : Int) (hb : 0 ≤ b ∧ b ≤ 255) :
    ∃ g, a = some ⟨g, 0, none⟩ ∧ B ≤ g ∧ (∀ W', (Instr.indexAt 28 (.slice a n c) (.int .i64 (i : Int))).run Try.prog W' = .ok (.pointer (some ⟨g, i, none⟩)) W') ∧ w.cell? ⟨g, i, none⟩ = some (.int .u8 (l.getD i 0)) ∧ w.frozen? ⟨g, i, none⟩ = false ∧ BS (w.setCell ⟨g, i, none⟩ (.int .u8 b)) (.slice a n c) (l.set i b) := by
  rcases h.2 with ⟨e, h0⟩ | ⟨g, cap, cur, e, hbase, hg, h1, h2, h3, h4⟩
  · omega
  · injection e with e1 e2 e3
    subst e1; subst e3
    rw [Nat.mul_one] at h3 h4
    have hcell : ∀ j, j < n → w.cell? ⟨g, j, none⟩ = some (.int .u8 (l.getD j 0)) := fun j hj => by
      rw [cell_of_row _ _ _ _ _ _ hg]
      have e5 := congrArg (fun x => x[j]?) h4
      rw [List.getElem?_take_of_lt hj, Array.getElem?_toList] at e5
      rw [e5, List.getElem?_map, List.getElem?_eq_getElem (by omega)]
      simp [List.getD, List.getElem?_eq_getElem (show j < l.length by omega)]
    obtain ⟨i0, hi0, hs⟩ := Option.map_eq_some_iff.1 (show (Try.prog.info? 5).map (·.size) = some 1 by kernel_rfl)
    refine ⟨g, rfl, hbase, fun W' => by simp [Instr.indexAt, asIntOf, run_underlying Try.underlying28, sizeOf, typeInfo, hi0, hs, hi, Addr.add_mid], hcell i hi, frozen_of_row _ _ _ _ _ hg, ?_⟩
    have hg2 := heap_setCell_same w g i _ _ (.int .u8 b) hg
    refine ⟨some ⟨g, 0, none⟩, c, by rw [List.length_set, hl], fun z hz => ?_, (fun h => by cases h), .inr ⟨g, 0, rfl, fun j hj => ?_⟩⟩
    · rcases List.mem_or_eq_of_mem_set hz with hz | rfl
      · exact hy z hz
      · exact hb
    · rw [List.length_set] at hj
      rw [Nat.zero_add, cell_of_row _ _ _ _ _ _ hg2]
      have e6 := hcell j (by omega)
      rw [cell_of_row _ _ _ _ _ _ hg] at e6
      by_cases e7 : i = j
      · subst e7
        rw [Array.getElem?_setIfInBounds]
        simp [List.getD, hj]
        omega
      · rw [Array.getElem?_setIfInBounds, if_neg e7, e6]
        simp [List.getD, e7]
theorem set_sec {n : NodeV} (h : checkN n = 0) (j : Nat) (b : Int) (hj : j < 512 - sizeN n) (hb : 0 < b ∧ b ≤ 255) : getN ((secB n).set (sizeN n + j) b) = (zeroNode, 4) := by
  obtain ⟨hf, hz⟩ := check_ok h
  have hl := nodeB_length hf
  have e1 : (secB n).set (sizeN n + j) b = nodeB n ++ (List.replicate (512 - sizeN n) 0).set j b := by
    unfold secB
    rw [hl, List.set_append_right _ _ (by omega)]
    congr 2
    omega
  have hy : Byt ((List.replicate (512 - sizeN n) (0 : Int)).set j b) := fun z hz => by
    rcases List.mem_or_eq_of_mem_set hz with hz | rfl
    · rw [(List.mem_replicate.1 hz).2]; omega
    · omega
  have e2 : toldN ((secB n).set (sizeN n + j) b) = n := by rw [e1]; exact told_node h _ hy
  unfold getN
  rw [if_neg (by rw [List.length_set, secB_length h]; simp), e2, if_neg (fun hh => ?_)]
  have e3 := congrArg (fun x => x[sizeN n + j]?) hh.2
  rw [List.getElem?_set_self (by rw [secB_length h]; omega)] at e3
  unfold secB at e3
  rw [List.getElem?_append_right (by omega), List.getElem?_replicate] at e3
  split at e3 <;> simp at e3
  omega
theorem get_len {l : List Int} (h : l.length ≠ 512) : getN l = (zeroNode, 2) := by unfold getN; rw [if_pos h]

set_option maxRecDepth 100000 in
set_option maxHeartbeats 3200000 in
theorem walk (w : World) (k0 v0 p0 : Value) (n0 : NodeV) (nr0 : NR w k0 v0 p0 n0) (nb0 : NB n0) (z1 : Int) (za1 : 0 ≤ z1) (zb1 : z1 ≤ 65535) (z2 : Int) (za2 : 0 ≤ z2) (zb2 : z2 ≤ 255) :
    Calls Try.prog 9 #[.agg #[.bool n0.lf, k0, v0, p0], .int .u16 z1, .int .u8 z2] w fun e w' => e = .returned (.bool true) ∧ Below w.heap.size w w' := by
  have hb1 := (Below.refl w.heap.size w).alloc (Nat.le_refl _) (.cells #[.bool n0.lf, k0, v0, p0] 25)
  have hA1 := heap_alloc_new w (.cells #[.bool n0.lf, k0, v0, p0] 25)
  have hs1 : w.heap.size < (w.alloc (.cells #[.bool n0.lf, k0, v0, p0] 25)).heap.size := by simp
  have SE := Lib.hid (size_node n0.lf k0 v0 p0)
  generalize hw1 : w.alloc (.cells #[.bool n0.lf, k0, v0, p0] 25) = w1 at *
  have HAL := Lib.hid (alive9_any w1)
  have HAT := Lib.hid (fun W (b : Below w1.heap.size w1 W) => (b.block w.heap.size hs1).trans hA1)
  have HBW := Lib.hid (show ∀ W, Below w1.heap.size w1 W → Below w.heap.size w W from fun W b => hb1.trans (b.mono hb1.size))
  have HGR := Lib.hid (fun W (b : Below w1.heap.size w1 W) => great9_any k0 v0 p0 n0 W ((nr0.below hb1).below b) nb0)
  have HSZ := Lib.hid (fun W (b : Below w1.heap.size w1 W) => nsize_any k0 v0 p0 n0 W ((nr0.below hb1).below b) nb0)
  have HPT := Lib.hid (fun W (b : Below w1.heap.size w1 W) => nput_any k0 v0 p0 n0 W ((nr0.below hb1).below b) nb0)
  have HPB := Lib.hid (fun W (b : Below w1.heap.size w1 W) => nput_bad k0 v0 p0 n0 W ((nr0.below hb1).below b) nb0)
  have HC3 := Lib.hid (check_three n0)
  obtain ⟨y, rfl⟩ : ∃ y : Nat, z1 = (y : Int) := ⟨z1.toNat, by omega⟩
  have HZ := Lib.hid (And.intro za1 (And.intro zb1 (And.intro za2 zb2)))
  have xz : IntKind.i64.wrap (y : Int) = (y : Int) := IntWalk.i64_in _ (by omega)
  obtain ⟨j, hj⟩ : ∃ j : Nat, (y : Int).tmod 512 = (j : Int) := ⟨((y : Int) % 512).toNat, by rw [Int.tmod_eq_emod_of_nonneg (by omega), Int.toNat_of_nonneg (Int.emod_nonneg _ (by omega))]⟩
  have hj5 : j < 512 := by have := Int.emod_lt_of_pos (y : Int) (show (0 : Int) < 512 by omega); rw [Int.tmod_eq_emod_of_nonneg (by omega)] at hj; omega
  clear nr0 nb0 hb1 hA1 za1 zb1 za2 zb2
  go_enter Try.func9, Try.ntmps9
  go_upto_region 1 with fail
  try rw [hw1]
  clear hw1 hs1
  go_wp2_with fail
  refine HAL.out.mono ?_
  rintro e w2 ⟨rfl, hb2⟩
  have HB2 := Lib.hid hb2
  have HA2 := Lib.hid (HAT.out w2 hb2)
  clear hb2 HAL
  by_cases hck : checkN n0 = 0
  · go_wp2_with (first
      | (with_reducible refine wpList_load_row (o := ⟨some 21, _, _, _, _, _⟩) rfl 25 _ rfl w.heap.size rfl 25 _ (0, 0) _ HA2.out Try.underlying25 rfl SE.out ?_))
    refine (HPT.out w2 HB2.out hck).mono ?_
    rintro e w3 ⟨a3, c3, rfl, hc3, hbs3, hb3⟩
    have HB3 := Lib.hid (HB2.out.trans (hb3.mono HB2.out.size))
    have HA3 := Lib.hid (HAT.out w3 HB3.out)
    have HX3 := Lib.hid hbs3
    have HCC := Lib.hid hc3
    have HSL := Lib.hid (secB_length hck)
    have hsa : sizeA n0 = (((sizeN n0 : Nat) : Int), 0) := by unfold sizeA; rw [(check_ok hck).1]; rfl
    rw [hsa] at HSZ
    have HZZ := Lib.hid (check_ok hck).2
    have HSS := Lib.hid (fun j b hj hb => set_sec hck j b hj hb)
    have HBY := Lib.hid hbs3.byt
    clear hb3 hbs3 hc3 HB2 HA2 hck hsa HPT HPB HC3
    go_wp2_with (first
      | (with_reducible refine wpList_load_row (o := ⟨some 25, _, _, _, _, _⟩) rfl 25 _ rfl w.heap.size rfl 25 _ (0, 0) _ HA3.out Try.underlying25 rfl SE.out ?_))
    refine (HGR.out w3 HB3.out).mono ?_
    rintro e w4 ⟨b, rfl, _, hb4⟩
    have HB4 := Lib.hid (HB3.out.trans (hb4.mono HB3.out.size))
    have HA4 := Lib.hid (HAT.out w4 HB4.out)
    have HX4 := Lib.hid (HX3.out.kept hb4)
    clear hb4 HB3 HA3 HGR HX3
    cases b with
    | true =>
      go_wp2_with fail
      go_ret
      exact ⟨rfl, HBW.out _ HB4.out⟩
    | false =>
      go_wp2_with (first
        | (with_reducible refine wpList_load_row (o := ⟨some 32, _, _, _, _, _⟩) rfl 25 _ rfl w.heap.size rfl 25 _ (0, 0) _ HA4.out Try.underlying25 rfl SE.out ?_))
      refine (HSZ.out w4 HB4.out).mono ?_
      rintro e w5 ⟨rfl, hb5⟩
      have HB5 := Lib.hid (HB4.out.trans (hb5.mono HB4.out.size))
      have HX5 := Lib.hid (HX4.out.kept hb5)
      obtain ⟨a6, _, _, e6, hb6⟩ := slice_cut w5 a3 512 c3 0 j (secB n0) HX5.out HSL.out (Nat.zero_le _) (by omega) HCC.out
      have e6 := e6 rfl
      simp only [Nat.sub_zero, List.drop_zero] at e6 hb6
      have HL6 := Lib.hid (show ((secB n0).take j).length = j by rw [List.length_take, HSL.out]; omega)
      have HG6 := Lib.hid (nget_any _ _ w5 hb6 (by rw [HL6.out]; omega))
      rw [get_len (by rw [HL6.out]; omega)] at HG6
      clear hb5 hb6 HB4 HA4 HX4 HSZ
      go_wp2_with fail
      refine HG6.out.mono ?_
      rintro e w6 ⟨kx, vx, px, rfl, hnr, hb6⟩
      obtain ⟨_, _, hk⟩ := hnr.ks.shape
      obtain ⟨_, _, hv⟩ := hnr.vs.shape
      obtain ⟨_, _, hp⟩ := hnr.ps.shape
      subst hk hv hp
      have HQ6 := Lib.hid hb6
      clear hnr hb6 HG6 hj HL6
      go_upto_region 8 with fail
      generalize hw7 : World.alloc w6 _ = w7 at *
      have hq7 : Below w5.heap.size w5 w7 := by rw [← hw7]; exact HQ6.out.alloc HQ6.out.size _
      have HB7 := Lib.hid (HB5.out.trans (hq7.mono HB5.out.size))
      have hx7 := HX5.out.kept hq7
      obtain ⟨a8, c8, w8, hr8, ho8, hb8⟩ := copied w7 _ (secB n0) hx7 (by rw [HSL.out]; omega)
      rw [HSL.out] at hr8 ho8
      have hl8 := (Below.refl w8.heap.size w8).alloc (Nat.le_refl _) (.cells #[.int .u8 z2] 5)
      obtain ⟨v9, w9, hr9, ho9, hg9, _⟩ := run_append_BS_at (w8.alloc (.cells #[.int .u8 z2] 5)) w7.heap.size 512 (.slice a8 512 c8) (.slice (some ⟨w8.heap.size, 0, none⟩) 1 1) _ [z2] (own_belowP ho8 hl8) (BS.lit w8 [z2] (fun z hz => by rw [List.mem_singleton.1 hz]; have := HZ.out; omega)) (by simp) (Nat.le_trans hb8.size hl8.size)
      obtain ⟨a9, c9, rfl⟩ := own_shape8 ho9
      have hb9 : Below w7.heap.size w7 w9 := hb8.trans ((hl8.mono hb8.size).trans (grown_below hg9 (Nat.le_trans hb8.size hl8.size) (fun g e => (ho8.lt g e).1)))
      have HR8 := Lib.hid hr8
      have HR9 := Lib.hid hr9
      have HX7 := Lib.hid hx7
      have hbs9 : BS w9 (.slice a9 (512 + [z2].length) c9) (secB n0 ++ [z2]) := BS.of_own (by rw [List.map_append]; exact ho9) (by rw [List.length_append, HSL.out]) (fun z hz => by
        rcases List.mem_append.1 hz with hz | hz
        · exact HBY.out z hz
        · rw [List.mem_singleton.1 hz]; have := HZ.out; omega)
      have HG9 := Lib.hid (nget_any _ _ w9 hbs9 (by rw [List.length_append, HSL.out]; simp))
      rw [get_len (by rw [List.length_append, HSL.out]; simp)] at HG9
      have HB9 := Lib.hid hb9
      clear hw7 hq7 hx7 hr8 ho8 hb8 hl8 hr9 ho9 hg9 hb9 hbs9 HX5 HQ6 HB5
      go_wp2_with (first
        | (at_builtin; refine wpList_append_run (o := ⟨some 48, _, _, _, _, _⟩) rfl _ _ _ _ rfl _ _ _ _ rfl rfl HR8.out ?_)
        | (at_builtin; refine wpList_append_run (o := ⟨some 51, _, _, _, _, _⟩) rfl _ _ _ _ rfl _ _ _ _ rfl rfl HR9.out ?_))
      refine HG9.out.mono ?_
      rintro e w10 ⟨kx, vx, px, rfl, hnr, hb10⟩
      obtain ⟨_, _, hk⟩ := hnr.ks.shape
      obtain ⟨_, _, hv⟩ := hnr.vs.shape
      obtain ⟨_, _, hp⟩ := hnr.ps.shape
      subst hk hv hp
      have HQ9 := Lib.hid hb10
      clear hnr hb10 HG9 HR8 HR9
      go_upto_region 9 with fail
      generalize hw11 : World.alloc w10 _ = w11 at *
      have hq11 : Below w9.heap.size w9 w11 := by rw [← hw11]; exact HQ9.out.alloc HQ9.out.size _
      have hb11 : Below w7.heap.size w7 w11 := HB9.out.trans (hq11.mono HB9.out.size)
      have HB11 := Lib.hid (HB7.out.trans (hb11.mono HB7.out.size))
      have hx11 := HX7.out.kept hb11
      have HX11 := Lib.hid hx11
      obtain ⟨k, hk⟩ : ∃ k, sizeN n0 = k := ⟨_, rfl⟩
      rw [hk] at HZZ HSS
      try rw [hk]
      have kI : (k : Int) ≤ 512 := by have := HZZ.out; omega
      have k0 : (0 : Int) ≤ (k : Int) := by omega
      clear hw11 hq11 hb11 hx11 HX7 HQ9 HB9 HB7 hk
      by_cases hk5 : k = 512
      · have hkb : ((k : Int) == 512) = true := by rw [hk5]; rfl
        clear hk5
        go_wp2_with fail
        go_ret
        exact ⟨rfl, HBW.out _ HB11.out⟩
      · have hkb : ((k : Int) == 512) = false := by rw [show ((k : Int) == 512) = ((k : Int) == ((512 : Nat) : Int)) from rfl, cast_beq, decide_eq_false hk5]
        by_cases hz0 : z2 = 0
        · have hzb : (z2 == 0) = true := by simpa using hz0
          clear hk5 hz0
          go_wp2_with fail
          go_ret
          exact ⟨rfl, HBW.out _ HB11.out⟩
        · have hzb : (z2 == 0) = false := by simpa using hz0
          obtain ⟨m, hm⟩ : ∃ m : Nat, (y : Int).tmod (512 - (k : Int)) = (m : Int) := ⟨((y : Int) % (512 - (k : Int))).toNat, by rw [Int.tmod_eq_emod_of_nonneg (by omega), Int.toNat_of_nonneg (Int.emod_nonneg _ (by omega))]⟩
          have hm5 : (m : Int) < 512 - (k : Int) := by have := Int.emod_lt_of_pos (y : Int) (show (0 : Int) < 512 - (k : Int) by omega); rw [Int.tmod_eq_emod_of_nonneg (by omega)] at hm; omega
          obtain ⟨q, hq⟩ : ∃ q, k + m = q := ⟨_, rfl⟩
          have hkm : (k : Int) + (m : Int) = (q : Int) := by omega
          have HSQ := Lib.hid (HSS.out m z2 (by omega) (by have := HZ.out; omega))
          rw [hq] at HSQ
          obtain ⟨a12, c12, w12, hr12, ho12, hb12⟩ := copied w11 _ (secB n0) HX11.out (by rw [HSL.out]; omega)
          rw [HSL.out] at hr12 ho12
          obtain ⟨g, rfl, hg, hix, d1, f1, hbs⟩ := own_set ho12 HSL.out HBY.out q (by omega) z2 (by have := HZ.out; omega)
          have hb13 : Below w11.heap.size w11 (w12.setCell ⟨g, q, none⟩ (.int .u8 z2)) := hb12.setCell (p := ⟨g, q, none⟩) hg _
          have HR12 := Lib.hid hr12
          have HG14 := Lib.hid (nget_any _ _ _ hbs (by rw [List.length_set, HSL.out]; omega))
          rw [HSQ.out] at HG14
          have HB13 := Lib.hid (HB11.out.trans (hb13.mono HB11.out.size))
          have hns : (0 : Int) ≤ (q : Int) := by omega
          have hnb : (q : Int) < 512 := by omega
          have m0 : (0 : Int) ≤ (m : Int) := by omega
          have m5 : (m : Int) ≤ 512 := by omega
          have hne : ((512 : Int) - (k : Int) == 0) = false := beq_eq_false_iff_ne.2 (by omega)
          have hnz : ¬ (512 : Int) - (k : Int) = 0 := by omega
          clear hr12 ho12 hb12 hb13 hbs hk5 hz0 hm5 HX11 HB11 hg hq HSQ HSS
          go_wp2_with (first
            | (at_builtin; refine wpList_append_run (o := ⟨some 69, _, _, _, _, _⟩) rfl _ _ _ _ rfl _ _ _ _ rfl rfl HR12.out ?_))
          refine HG14.out.mono ?_
          rintro e w14 ⟨kx, vx, px, rfl, hnr, hb14⟩
          obtain ⟨_, _, hk⟩ := hnr.ks.shape
          obtain ⟨_, _, hv⟩ := hnr.vs.shape
          obtain ⟨_, _, hp⟩ := hnr.ps.shape
          subst hk hv hp
          have HB15 := Lib.hid (HB13.out.trans (hb14.mono HB13.out.size))
          clear hnr hb14 HG14 d1 f1 hix
          go_upto_region 16 with fail
          generalize hw15 : World.alloc w14 _ = w15 at *
          have HB16 := Lib.hid (show Below w1.heap.size w1 w15 by rw [← hw15]; exact HB15.out.alloc HB15.out.size _)
          clear hw15
          go_wp2_with fail
          go_ret
          exact ⟨rfl, HBW.out _ HB16.out⟩
  · go_wp2_with (first
      | (with_reducible refine wpList_load_row (o := ⟨some 21, _, _, _, _, _⟩) rfl 25 _ rfl w.heap.size rfl 25 _ (0, 0) _ HA2.out Try.underlying25 rfl SE.out ?_))
    refine (HPB.out w2 HB2.out hck).mono ?_
    rintro e w3 ⟨rfl, hb3⟩
    have HB3 := Lib.hid (HB2.out.trans (hb3.mono HB2.out.size))
    have HA3 := Lib.hid (HAT.out w3 HB3.out)
    clear hb3 HB2 HA2 HPT HPB
    go_wp2_with (first
      | (with_reducible refine wpList_load_row (o := ⟨some 25, _, _, _, _, _⟩) rfl 25 _ rfl w.heap.size rfl 25 _ (0, 0) _ HA3.out Try.underlying25 rfl SE.out ?_))
    refine (HGR.out w3 HB3.out).mono ?_
    rintro e w4 ⟨b, rfl, _, hb4⟩
    have HB4 := Lib.hid (HB3.out.trans (hb4.mono HB3.out.size))
    clear hb4 HB3 HA3 HGR
    cases b with
    | true =>
      go_wp2_with fail
      go_ret
      exact ⟨rfl, HBW.out _ HB4.out⟩
    | false =>
      obtain ⟨ce, hce⟩ : ∃ ce, checkN n0 = ce := ⟨_, rfl⟩
      try rw [hce]
      rw [hce] at HC3 hck
      clear hce
      rcases HC3.out with rfl | rfl | rfl
      · exact absurd rfl hck
      · go_wp2_with fail
        go_ret
        exact ⟨rfl, HBW.out _ HB4.out⟩
      · go_wp2_with fail
        go_ret
        exact ⟨rfl, HBW.out _ HB4.out⟩
set_option maxRecDepth 100000 in
theorem lifted (os : Os) (started : os.Started) (H : Type) (enc : TypeId × Value → H) :
    ReturnsInHanded {} Try.checked os 9 .any (Rows.nodeCutsSpec.pre6 enc Try.prog Try.f9 Rows.nodeCutsRow.domain false) (Rows.nodeCutsSpec.post enc Try.prog Try.f9 false true false false) := by
  refine returnsInHanded_of_change_sized (C := Try.checked) own started (by kernel_rfl) Try.func9
    (ChangeSpec.witness6 (enc := enc) (C := Try.checked) false ⟨#[], #[.agg #[.bool false, .slice none 0 0, .slice none 0 0, .slice none 0 0], .int .u16 0, .int .u8 0], []⟩ 8 (by kernel_rfl) (by kernel_rfl) (by kernel_rfl) (by kernel_rfl)) ?_
  intro W base args ds gs before hval0 hW hcnd hsz0 _
  have hsz : (DataW.weightsEach Try.prog (Try.f9.params.toList ++ Rows.nodeCutsSpec.plain.varTypes Try.prog) (ds ++ gs)).all (· ≤ reachBytes) = true := hsz0
  clear hsz0
  have hval : ∀ (j : Nat) t v, Try.f9.params[j]? = some t → args[j]? = some v → Value.okWide Try.prog W .any base t v := hval0
  have hW' := hW
  obtain ⟨p, q, hA0, hV, rfl, hfz, hnd⟩ := hW
  have hA : DataW.TrodAll enc Try.prog W 0 (fun _ => true) true Try.f9.params.toList args.toList ds p := hA0
  rw [Try.params9] at hA hval hsz
  obtain ⟨v0, vs0, d0, ds0, p0, q0, hargs, rfl, rfl, h0, r0⟩ := trodAll_cons hA
  obtain ⟨v1, vs1, d1, ds1, p1, q1, rfl, rfl, rfl, h1, r1⟩ := trodAll_cons r0
  obtain ⟨v2, vs2, d2, ds2, p2, q2, rfl, rfl, rfl, h2, r2⟩ := trodAll_cons r1
  obtain ⟨rfl, rfl, rfl⟩ := trodAll_nil r2
  obtain rfl : args = #[v0, v1, v2] := by cases args; simp_all
  obtain ⟨rfl, rfl⟩ := trodVars_none hV
  have k0 := h0
  have lt0 : ∀ x ∈ p0, x.block < W.heap.size := by obtain ⟨m, hm⟩ := k0; exact DataW.trod_lt m _ _ _ hm
  have k1 := h1
  have lt1 : ∀ x ∈ p1, x.block < W.heap.size := by obtain ⟨m, hm⟩ := k1; exact DataW.trod_lt m _ _ _ hm
  have k2 := h2
  have lt2 : ∀ x ∈ p2, x.block < W.heap.size := by obtain ⟨m, hm⟩ := k2; exact DataW.trod_lt m _ _ _ hm
  obtain ⟨kk0, vv0, pp0, n0, rfl, nr0, nb0⟩ := par_node (j := 0) (hval 0 25 v0 rfl rfl) h0 hsz rfl rfl
  obtain ⟨z1, rfl, za1, zb1⟩ := par_int (j := 1) .u16 _ _ Try.underlying44 wf_u16 (hval 1 44 v1 rfl rfl) h1 hsz rfl rfl
  obtain ⟨z2, rfl, za2, zb2⟩ := par_int (j := 2) .u8 _ _ Try.underlying5 wf_u8 (hval 2 5 v2 rfl rfl) h2 hsz rfl rfl
  clear hA0 hval0
  simp only [List.append_nil] at hW'
  refine (walk W kk0 vv0 pp0 n0 nr0 nb0 z1 za1 zb1 z2 za2 zb2).mono fun e W' ⟨he, bel⟩ => ?_
  subst he
  exact ⟨_, rfl, _, _, _, [], _, [], hW', trodAll_mk1 (shut_bool Try.underlying4 _), (trodAll_cons_mk (Below.trod laidOut (by kernel_rfl) (of_decide_eq_true (by kernel_rfl)) k0 bel lt0) (trodAll_cons_mk (Below.trod laidOut (by kernel_rfl) (of_decide_eq_true (by kernel_rfl)) k1 bel lt1) (trodAll_cons_mk (Below.trod laidOut (by kernel_rfl) (of_decide_eq_true (by kernel_rfl)) k2 bel lt2) trodAll_mk0))), rfl, bel.frame _, fun h => by cases h⟩

theorem over : Rows.nodeCutsRow.holds Try.pinned (OpenSpec.ofChange Rows.nodeCutsSpec) :=
  OpenClaim.holds_of_wide 9 Try.f9 rfl rfl rfl rfl rfl rfl rfl ⟨rfl, rfl, rfl, rfl, rfl⟩ rfl rfl rfl rfl rfl (by kernel_rfl) Try.func9 (by kernel_rfl)
    (of_decide_eq_true (by kernel_rfl)) (by unfold Func.isWrapper; first | (rw [if_pos (by decide +kernel)]; kernel_rfl) | (rw [if_neg (by decide +kernel)]; exact ⟨rfl, rfl⟩))
    (fun os started H enc _ => lifted os started H enc)

/-- The statement. -/
theorem proved : Rows.NodeCutsSaid := over
#print axioms proved
end Go.Proofs.Ytcgddhainmnebaa.nodeCuts
