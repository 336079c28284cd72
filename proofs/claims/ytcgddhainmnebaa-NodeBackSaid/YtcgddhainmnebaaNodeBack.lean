/-
  'NodeBack' returns true at every input, and each argument reads behind the call as it read before. Conditions: none.
-/
import Derived.Test.YtcgddhainmnebaaRows
import Derived.Test.YtcgddhainmnebaaAes0
import Derived.Test.YtcgddhainmnebaaNm
namespace Go.Proofs.Ytcgddhainmnebaa.nodeBack
open Go.ChangeShapes Go.WideShapes Go.ChangeAt Go.RowKit
set_option linter.unusedVariables false

theorem get_two (l : List Int) : (∃ c, getN l = (zeroNode, c) ∧ (c = 2 ∨ c = 4)) ∨ (getN l = (toldN l, 0) ∧ checkN (toldN l) = 0 ∧ secB (toldN l) = l ∧ l.length = 512) := by
  by_cases h : l.length = 512
  · by_cases h2 : checkN (toldN l) = 0 ∧ secB (toldN l) = l
    · exact .inr ⟨by unfold getN; rw [if_neg (by simp [h]), if_pos h2], h2.1, h2.2, h⟩
    · exact .inl ⟨4, by unfold getN; rw [if_neg (by simp [h]), if_neg h2], .inr rfl⟩
  · exact .inl ⟨2, by unfold getN; rw [if_pos h], .inl rfl⟩
theorem sec_tail {n : NodeV} (h : checkN n = 0) : ((secB n).drop (sizeN n)).take (512 - sizeN n) = List.replicate (512 - sizeN n) 0 := by
  obtain ⟨hf, hz⟩ := check_ok h
  have hl := nodeB_length hf
  unfold secB
  rw [hl, ← hl, List.drop_left, List.take_of_length_le (by simp)]
theorem index_u8 (b off len cap i : Nat) (h : i < len) (W : World) : (Instr.indexAt 28 (.slice (some ⟨b, off, none⟩) len cap) (.int .i64 (i : Int))).run Try.prog W = .ok (.pointer (some ⟨b, off + i, none⟩)) W := by
  obtain ⟨i0, hi0, hs⟩ := Option.map_eq_some_iff.1 (show (Try.prog.info? 5).map (·.size) = some 1 by kernel_rfl)
  simp [Instr.indexAt, asIntOf, run_underlying Try.underlying28, sizeOf, typeInfo, hi0, hs, h, Addr.add_mid]
theorem zeros_at {w : World} {a : Option Addr} {m c : Nat} (h : BS w (.slice a m c) (List.replicate m 0)) : ∃ b off, (0 < m → a = some ⟨b, off, none⟩) ∧ ∀ i, i < m → w.cell? ⟨b, off + i, none⟩ = some (.int .u8 0) := by
  obtain ⟨a', c', e, _, _, h⟩ := h
  injection e with e1 e2 e3
  subst e1
  rcases h with h | ⟨b, off, e, hc⟩
  · have : m = 0 := by simpa using h
    subst this
    exact ⟨0, 0, fun h => absurd h (Nat.lt_irrefl _), fun i h => absurd h (Nat.not_lt_zero _)⟩
  · refine ⟨b, off, fun _ => e, fun i hi => ?_⟩
    have := hc i (by simpa using hi)
    rw [this]
    simp [List.getD, List.getElem?_replicate, hi]

set_option maxRecDepth 100000 in
set_option maxHeartbeats 3200000 in
theorem walk (w : World) (k0 v0 p0 : Value) (n0 : NodeV) (nr0 : NR w k0 v0 p0 n0) (nb0 : NB n0) (a1 : Option Addr) (len1 cap1 : Nat) (x1 : List Int) (e1 : x1.length = len1) (m1 : len1 ≤ cap1) (n1 : cap1 ≤ 140737488351232) (b1 : BS w (.slice a1 len1 cap1) x1) :
    Calls Try.prog 6 #[.agg #[.bool n0.lf, k0, v0, p0], .slice a1 len1 cap1] w fun e w' => e = .returned (.bool true) ∧ Below w.heap.size w w' := by
  have hb1 := (Below.refl w.heap.size w).alloc (Nat.le_refl _) (.cells #[.bool n0.lf, k0, v0, p0] 25)
  have hA1 := heap_alloc_new w (.cells #[.bool n0.lf, k0, v0, p0] 25)
  have hs1 : w.heap.size < (w.alloc (.cells #[.bool n0.lf, k0, v0, p0] 25)).heap.size := by simp
  have SE := Lib.hid (size_node n0.lf k0 v0 p0)
  have lI : (len1 : Int) ≤ 140737488351232 := by omega
  have HTWO := Lib.hid (get_two x1)
  have HY1 := Lib.hid b1.byt
  generalize hw1 : w.alloc (.cells #[.bool n0.lf, k0, v0, p0] 25) = w1 at *
  have HXL := Lib.hid (show x1.length ≤ 140737488351232 by rw [e1]; omega)
  have HXB := Lib.hid (fun W (b : Below w1.heap.size w1 W) => (b1.kept hb1).kept b)
  have HAL := Lib.hid (alive9_any w1)
  have HAT := Lib.hid (fun W (b : Below w1.heap.size w1 W) => (b.block w.heap.size hs1).trans hA1)
  have HBW := Lib.hid (show ∀ W, Below w1.heap.size w1 W → Below w.heap.size w W from fun W b => hb1.trans (b.mono hb1.size))
  have HGR := Lib.hid (fun W (b : Below w1.heap.size w1 W) => great9_any k0 v0 p0 n0 W ((nr0.below hb1).below b) nb0)
  have HSZ := Lib.hid (fun W (b : Below w1.heap.size w1 W) => nsize_any k0 v0 p0 n0 W ((nr0.below hb1).below b) nb0)
  have HPT := Lib.hid (fun W (b : Below w1.heap.size w1 W) => nput_any k0 v0 p0 n0 W ((nr0.below hb1).below b) nb0)
  have HPB := Lib.hid (fun W (b : Below w1.heap.size w1 W) => nput_bad k0 v0 p0 n0 W ((nr0.below hb1).below b) nb0)
  have HSM := Lib.hid (fun (hf : Few n0) W (b : Below w1.heap.size w1 W) kk vv pp (h : NR W kk vv pp n0) => nsame_any kk vv pp k0 v0 p0 n0 n0 W h ((nr0.below hb1).below b) nb0 nb0 (by have := hf.2.2; omega) (by have := hf.2.2; omega))
  have HC3 := Lib.hid (check_three n0)
  have HLE := Lib.hid (And.intro e1 m1)
  clear nr0 nb0 hb1 hA1 e1 m1 n1 b1
  go_enter Try.func6, Try.ntmps6
  go_upto_region 1 with fail
  try rw [hw1]
  clear hw1 hs1
  go_wp2_with fail
  refine HAL.out.mono ?_
  rintro e w2 ⟨rfl, hb2⟩
  have HB2 := Lib.hid hb2
  have HA2 := Lib.hid (HAT.out w2 hb2)
  clear hb2 HAL
  go_wp2_with (first
    | (with_reducible refine wpList_load_row (o := ⟨some 19, _, _, _, _, _⟩) rfl 25 _ rfl w.heap.size rfl 25 _ (0, 0) _ HA2.out Try.underlying25 rfl SE.out ?_))
  refine (HGR.out w2 HB2.out).mono ?_
  rintro e w3 ⟨b, rfl, hfew, hb3⟩
  have HB3 := Lib.hid (HB2.out.trans (hb3.mono HB2.out.size))
  have HA3 := Lib.hid (HAT.out w3 HB3.out)
  clear hb3 HB2 HA2 HGR
  cases b with
  | true =>
    go_wp2_with fail
    go_ret
    exact ⟨rfl, HBW.out _ HB3.out⟩
  | false =>
    have HFEW := Lib.hid (hfew rfl)
    clear hfew
    by_cases hbig : 2000 < len1
    · have hbg : decide ((2000 : Int) < (len1 : Int)) = true := by rw [decide_eq_true_iff]; omega
      clear hbig
      go_wp2_with fail
      go_ret
      exact ⟨rfl, HBW.out _ HB3.out⟩
    · have hbg : decide ((2000 : Int) < (len1 : Int)) = false := by rw [decide_eq_false_iff_not]; omega
      clear hbig
      by_cases hck : checkN n0 = 0
      · have HPC := Lib.hid (HPT.out w3 HB3.out hck)
        have HCK := Lib.hid hck
        clear hck
        go_wp2_with (first
          | (with_reducible refine wpList_load_row (o := ⟨some 27, _, _, _, _, _⟩) rfl 25 _ rfl w.heap.size rfl 25 _ (0, 0) _ HA3.out Try.underlying25 rfl SE.out ?_))
        refine HPC.out.mono ?_
        rintro e w4 ⟨a3, c3, rfl, hc3, hbs3, hb3⟩
        have HB4 := Lib.hid (HB3.out.trans (hb3.mono HB3.out.size))
        have HGX := Lib.hid (nget_any _ _ w4 hbs3 (by rw [secB_length HCK.out]; decide))
        rw [get_sec HCK.out] at HGX
        have HX4 := Lib.hid hbs3
        have HC4 := Lib.hid hc3
        clear hbs3 hb3 hc3 HB3 HA3 HPC HPT HPB HC3
        go_wp2_with fail
        refine HGX.out.mono ?_
        rintro e w5 ⟨kx, vx, px, rfl, hnr, hb5⟩
        obtain ⟨ax, cx, hk⟩ := hnr.ks.shape
        obtain ⟨bx, dx, hv⟩ := hnr.vs.shape
        obtain ⟨ex, fx, hp⟩ := hnr.ps.shape
        replace hk : kx = .slice ax n0.ks.length cx := hk
        replace hv : vx = .slice bx n0.vs.length dx := hv
        replace hp : px = .slice ex n0.ps.length fx := hp
        subst hk hv hp
        have SEX := Lib.hid (size_node n0.lf (.slice ax n0.ks.length cx) (.slice bx n0.vs.length dx) (.slice ex n0.ps.length fx))
        have hb6 := (Below.refl w5.heap.size w5).alloc (Nat.le_refl _) (.cells #[.bool n0.lf, .slice ax n0.ks.length cx, .slice bx n0.vs.length dx, .slice ex n0.ps.length fx] 25)
        have hax := heap_alloc_new w5 (.cells #[.bool n0.lf, .slice ax n0.ks.length cx, .slice bx n0.vs.length dx, .slice ex n0.ps.length fx] 25)
        have hs6 : w5.heap.size < (w5.alloc (.cells #[.bool n0.lf, .slice ax n0.ks.length cx, .slice bx n0.vs.length dx, .slice ex n0.ps.length fx] 25)).heap.size := by simp
        have hnr6 := hnr.below hb6
        have HB5 := Lib.hid (HB4.out.trans (hb5.mono HB4.out.size))
        have hx6 := (HX4.out.kept hb5).kept hb6
        have HB6 := Lib.hid (HB5.out.trans (hb6.mono HB5.out.size))
        clear hnr hb5 hb6 HGX HX4 HB4 HB5
        go_upto_region 8 with fail
        generalize hw6 : World.alloc w5 _ = w6 at *
        clear hw6
        have HA6 := Lib.hid (HAT.out w6 HB6.out)
        have HSZ6 := Lib.hid (HSZ.out w6 HB6.out)
        have HAX := Lib.hid (fun W (b : Below w6.heap.size w6 W) => (b.block w5.heap.size hs6).trans hax)
        have HX6 := Lib.hid hx6
        have HSA := Lib.hid (fun W (b : Below w6.heap.size w6 W) => HSM.out HFEW.out W (HB6.out.trans (b.mono HB6.out.size)) _ _ _ (hnr6.below b))
        rw [sameN_refl] at HSA
        rw [show sizeA n0 = (((sizeN n0 : Nat) : Int), 0) by unfold sizeA; rw [(check_ok HCK.out).1]; rfl] at HSZ6
        have HZT := Lib.hid (And.intro (check_ok HCK.out).2 (sec_tail HCK.out))
        have HSL := Lib.hid (secB_length HCK.out)
        obtain ⟨k, hk⟩ : ∃ k, sizeN n0 = k := ⟨_, rfl⟩
        rw [hk] at HSZ6 HZT
        have kI : (k : Int) ≤ 512 := by have := HZT.out.1; omega
        have k0' : (0 : Int) ≤ (k : Int) := by omega
        clear hax hs6 hx6 hnr6 hk HSZ HSM
        go_wp2_with (first
          | (with_reducible refine wpList_load_row (o := ⟨some 39, _, _, _, _, _⟩) rfl 25 _ rfl w.heap.size rfl 25 _ (0, 0) _ HA6.out Try.underlying25 rfl SE.out ?_))
        refine HSZ6.out.mono ?_
        rintro e w7 ⟨rfl, hb7⟩
        have HA7 := Lib.hid (HAT.out w7 (HB6.out.trans (hb7.mono HB6.out.size)))
        have HAX7 := Lib.hid (HAX.out w7 hb7)
        have HSA7 := Lib.hid (HSA.out w7 hb7)
        have HB7 := Lib.hid hb7
        have kg : decide ((512 : Int) < (k : Int)) = false := by rw [decide_eq_false_iff_not]; omega
        clear hb7 HSZ6 HA6 HAX HSA
        go_wp2_with (first
          | (with_reducible refine wpList_load_guarded (o := ⟨some 46, _, _, _, _, _⟩) (by kernel_rfl) 25 _ rfl w5.heap.size rfl 25 _ (0, 0) _ HAX7.out Try.underlying25 rfl SEX.out ?_)
          | (with_reducible refine wpList_load_guarded (o := ⟨some 47, _, _, _, _, _⟩) (by kernel_rfl) 25 _ rfl w.heap.size rfl 25 _ (0, 0) _ HA7.out Try.underlying25 rfl SE.out ?_))
        refine HSA7.out.mono ?_
        rintro e w8 ⟨rfl, hb8⟩
        have HB8 := Lib.hid (HB7.out.trans (hb8.mono HB7.out.size))
        clear hb8 HSA7 HA7 HAX7 HB7
        obtain ⟨a9, _, e9, _, hx9⟩ := slice_cut w8 a3 512 c3 k 512 (secB n0) (HX6.out.kept HB8.out) HSL.out (by omega) (Nat.le_refl _) HC4.out
        replace e9 := e9 rfl
        rw [HZT.out.2] at hx9
        obtain ⟨m, hm⟩ : ∃ m, 512 - k = m := ⟨_, rfl⟩
        rw [hm] at e9 hx9
        generalize c3 - k = c9 at *
        obtain ⟨bb, off, hbase, hcl⟩ := zeros_at hx9
        have HBS := Lib.hid hbase
        have HCL := Lib.hid (show ∀ i, i < m → ∀ W, Below w8.heap.size w8 W → W.cell? ⟨bb, off + i, none⟩ = some (.int .u8 0) from fun i hi W b => (b.cell (block_lt_of_cell (hcl i hi))).trans (hcl i hi))
        have HM := Lib.hid hm
        have mI : (m : Int) ≤ 512 := by omega
        have m0 : (0 : Int) ≤ (m : Int) := by omega
        clear hbase hcl hx9 hm HX6 HSL HC4 HZT
        go_wp2_with fail
        go_loopw [12, 68] (fun _ v68 wr => ∃ i : Nat, i ≤ m ∧ v68 = .int .i64 (i : Int) ∧ Below w8.heap.size w8 wr) (fun _ v _ => m - (intOf v).toNat)
        case atStart => exact ⟨0, by omega, rfl, Below.refl _ _⟩
        case round =>
          obtain ⟨i, hi, rfl, hB⟩ := hrel
          by_cases hlt : i < m
          · obtain rfl := HBS.out (by omega)
            have gx := HCL.out i hlt wr hB
            have hix := index_u8 bb off m c9 i hlt
            have HLT := Lib.hid hlt
            have HB := Lib.hid hB
            have iI : (i : Int) < (m : Int) := by omega
            have i0 : (0 : Int) ≤ (i : Int) := by omega
            clear hi hlt hB
            go_wp2_with fail
            go_roundw
            case rel => exact ⟨i + 1, by have := HLT.out; omega, by go_num, HB.out⟩
            case measure => simp [intOf]; have := HLT.out; omega
          · obtain rfl : i = m := by omega
            have HBE := Lib.hid (HB6.out.trans ((HB8.out.trans (hB.mono HB8.out.size)).mono HB6.out.size))
            clear hi hlt hB HBS HCL HB6 HB8
            have HX0 := Lib.hid (HXB.out wr HBE.out)
            have HG0 := Lib.hid (nget_any _ _ wr HX0.out HXL.out)
            clear HX0
            rcases HTWO.out with ⟨ec, hge, hec⟩ | ⟨hge, hck2, hsec, h512⟩
            · rw [hge] at HG0
              have ecb : (ec == 0) = false := by rcases hec with rfl | rfl <;> rfl
              clear hge hec HTWO
              go_wp2_with fail
              refine HG0.out.mono ?_
              rintro e y1 ⟨kz, vz, pz, rfl, hnr, hq⟩
              obtain ⟨az, cz, hk⟩ := hnr.ks.shape
              obtain ⟨bz, dz, hv⟩ := hnr.vs.shape
              obtain ⟨ez, fz, hp⟩ := hnr.ps.shape
              replace hk : kz = .slice az 0 cz := hk
              replace hv : vz = .slice bz 0 dz := hv
              replace hp : pz = .slice ez 0 fz := hp
              subst hk hv hp
              have SEZ := Lib.hid (size_node zeroNode.lf (.slice az 0 cz) (.slice bz 0 dz) (.slice ez 0 fz))
              have hb2 := (Below.refl y1.heap.size y1).alloc (Nat.le_refl _) (.cells #[.bool zeroNode.lf, .slice az 0 cz, .slice bz 0 dz, .slice ez 0 fz] 25)
              have HAZ := Lib.hid (heap_alloc_new y1 (.cells #[.bool zeroNode.lf, .slice az 0 cz, .slice bz 0 dz, .slice ez 0 fz] 25))
              have hnr2 := hnr.below hb2
              have HBQ := Lib.hid ((HBE.out.trans (hq.mono HBE.out.size)).trans (hb2.mono (HBE.out.trans (hq.mono HBE.out.size)).size))
              clear hnr hq hb2 HG0
              go_upto_region 18 with fail
              generalize hy2 : World.alloc y1 _ = y2 at *
              clear hy2
              have HSZ0 := Lib.hid (nsame_any _ _ _ _ _ _ zeroNode zeroNode y2 hnr2 (nr_zero y2) nb_zero nb_zero (by decide) (by decide))
              rw [sameN_refl] at HSZ0
              clear hnr2
              go_wp2_with (first
                | (with_reducible refine wpList_load_row (o := ⟨some 82, _, _, _, _, _⟩) rfl 25 _ rfl y1.heap.size rfl 25 _ (0, 0) _ HAZ.out Try.underlying25 rfl SEZ.out ?_))
              refine HSZ0.out.mono ?_
              rintro e y3 ⟨rfl, hb3⟩
              have HB3 := Lib.hid (HBQ.out.trans (hb3.mono HBQ.out.size))
              clear hb3 HSZ0 HBQ HAZ
              go_wp2_with fail
              go_ret
              exact ⟨rfl, HBW.out _ HB3.out⟩
            · have HNB := Lib.hid (told_nb HY1.out)
              rw [hge] at HG0
              generalize toldN x1 = N at *
              have HSEC := Lib.hid hsec
              have HCK2 := Lib.hid hck2
              clear hge hck2 hsec h512 HTWO
              go_wp2_with fail
              refine HG0.out.mono ?_
              rintro e y1 ⟨kz, vz, pz, rfl, hnr, hq⟩
              obtain ⟨az, cz, hk⟩ := hnr.ks.shape
              obtain ⟨bz, dz, hv⟩ := hnr.vs.shape
              obtain ⟨ez, fz, hp⟩ := hnr.ps.shape
              replace hk : kz = .slice az N.ks.length cz := hk
              replace hv : vz = .slice bz N.vs.length dz := hv
              replace hp : pz = .slice ez N.ps.length fz := hp
              subst hk hv hp
              have SEZ := Lib.hid (size_node N.lf (.slice az N.ks.length cz) (.slice bz N.vs.length dz) (.slice ez N.ps.length fz))
              have hb2 := (Below.refl y1.heap.size y1).alloc (Nat.le_refl _) (.cells #[.bool N.lf, .slice az N.ks.length cz, .slice bz N.vs.length dz, .slice ez N.ps.length fz] 25)
              have haz := heap_alloc_new y1 (.cells #[.bool N.lf, .slice az N.ks.length cz, .slice bz N.vs.length dz, .slice ez N.ps.length fz] 25)
              have hs2 : y1.heap.size < (y1.alloc (.cells #[.bool N.lf, .slice az N.ks.length cz, .slice bz N.vs.length dz, .slice ez N.ps.length fz] 25)).heap.size := by simp
              have hnr2 := hnr.below hb2
              have HBQ := Lib.hid ((HBE.out.trans (hq.mono HBE.out.size)).trans (hb2.mono (HBE.out.trans (hq.mono HBE.out.size)).size))
              clear hnr hq hb2 HG0
              go_upto_region 18 with fail
              generalize hy2 : World.alloc y1 _ = y2 at *
              clear hy2
              have HAZ := Lib.hid haz
              have HAY := Lib.hid (fun W (b : Below y2.heap.size y2 W) => (b.block y1.heap.size hs2).trans haz)
              have HPN := Lib.hid (nput_any _ _ _ N y2 hnr2 HNB.out HCK2.out)
              rw [HSEC.out] at HPN
              have HCN := Lib.hid (fun W (b : Below y2.heap.size y2 W) => ncheck_any _ _ _ N W (hnr2.below b) HNB.out)
              rw [HCK2.out] at HCN
              clear hnr2 haz hs2
              go_wp2_with (first
                | (with_reducible refine wpList_load_row (o := ⟨some 86, _, _, _, _, _⟩) rfl 25 _ rfl y1.heap.size rfl 25 _ (0, 0) _ HAZ.out Try.underlying25 rfl SEZ.out ?_))
              refine HPN.out.mono ?_
              rintro e y3 ⟨aw, cw, rfl, hcw, hbs, hb3⟩
              have HAZ3 := Lib.hid (HAY.out y3 hb3)
              have HCN3 := Lib.hid (HCN.out y3 hb3)
              have HB3 := Lib.hid (HBQ.out.trans (hb3.mono HBQ.out.size))
              have HSQ := Lib.hid (same_eq y3 _ _ x1 hbs (HXB.out y3 HB3.out))
              clear hb3 hbs hcw HPN HBQ HAZ HAY HCN
              go_wp2_with fail
              refine HSQ.out.mono ?_
              rintro e _ ⟨rfl, rfl⟩
              go_wp2_with (first
                | (with_reducible refine wpList_load_guarded (o := ⟨some 98, _, _, _, _, _⟩) (by kernel_rfl) 25 _ rfl y1.heap.size rfl 25 _ (0, 0) _ HAZ3.out Try.underlying25 rfl SEZ.out ?_))
              refine HCN3.out.mono ?_
              rintro e y4 ⟨rfl, hb4⟩
              have HB4 := Lib.hid (HB3.out.trans (hb4.mono HB3.out.size))
              clear hb4 HCN3 HSQ HB3
              go_wp2_with fail
              go_ret
              exact ⟨rfl, HBW.out _ HB4.out⟩
      · have HPC := Lib.hid (HPB.out w3 HB3.out hck)
        have HCK := Lib.hid hck
        clear hck
        go_wp2_with (first
          | (with_reducible refine wpList_load_row (o := ⟨some 27, _, _, _, _, _⟩) rfl 25 _ rfl w.heap.size rfl 25 _ (0, 0) _ HA3.out Try.underlying25 rfl SE.out ?_))
        refine HPC.out.mono ?_
        rintro e w4 ⟨rfl, hb4⟩
        have HBE := Lib.hid (HB3.out.trans (hb4.mono HB3.out.size))
        have cke : (checkN n0 == 0) = false := beq_eq_false_iff_ne.2 HCK.out
        obtain ⟨ce, hce⟩ : ∃ ce, checkN n0 = ce := ⟨_, rfl⟩
        try rw [hce]
        rw [hce] at cke
        clear hb4 hce HB3 HA3 HPC HPT HPB HC3 HCK HSZ HSM
        have HX0 := Lib.hid (HXB.out w4 HBE.out)
        have HG0 := Lib.hid (nget_any _ _ w4 HX0.out HXL.out)
        clear HX0
        rcases HTWO.out with ⟨ec, hge, hec⟩ | ⟨hge, hck2, hsec, h512⟩
        · rw [hge] at HG0
          have ecb : (ec == 0) = false := by rcases hec with rfl | rfl <;> rfl
          clear hge hec HTWO
          go_wp2_with fail
          refine HG0.out.mono ?_
          rintro e y1 ⟨kz, vz, pz, rfl, hnr, hq⟩
          obtain ⟨az, cz, hk⟩ := hnr.ks.shape
          obtain ⟨bz, dz, hv⟩ := hnr.vs.shape
          obtain ⟨ez, fz, hp⟩ := hnr.ps.shape
          replace hk : kz = .slice az 0 cz := hk
          replace hv : vz = .slice bz 0 dz := hv
          replace hp : pz = .slice ez 0 fz := hp
          subst hk hv hp
          have SEZ := Lib.hid (size_node zeroNode.lf (.slice az 0 cz) (.slice bz 0 dz) (.slice ez 0 fz))
          have hb2 := (Below.refl y1.heap.size y1).alloc (Nat.le_refl _) (.cells #[.bool zeroNode.lf, .slice az 0 cz, .slice bz 0 dz, .slice ez 0 fz] 25)
          have HAZ := Lib.hid (heap_alloc_new y1 (.cells #[.bool zeroNode.lf, .slice az 0 cz, .slice bz 0 dz, .slice ez 0 fz] 25))
          have hnr2 := hnr.below hb2
          have HBQ := Lib.hid ((HBE.out.trans (hq.mono HBE.out.size)).trans (hb2.mono (HBE.out.trans (hq.mono HBE.out.size)).size))
          clear hnr hq hb2 HG0
          go_upto_region 18 with fail
          generalize hy2 : World.alloc y1 _ = y2 at *
          clear hy2
          have HSZ0 := Lib.hid (nsame_any _ _ _ _ _ _ zeroNode zeroNode y2 hnr2 (nr_zero y2) nb_zero nb_zero (by decide) (by decide))
          rw [sameN_refl] at HSZ0
          clear hnr2
          go_wp2_with (first
            | (with_reducible refine wpList_load_row (o := ⟨some 82, _, _, _, _, _⟩) rfl 25 _ rfl y1.heap.size rfl 25 _ (0, 0) _ HAZ.out Try.underlying25 rfl SEZ.out ?_))
          refine HSZ0.out.mono ?_
          rintro e y3 ⟨rfl, hb3⟩
          have HB3 := Lib.hid (HBQ.out.trans (hb3.mono HBQ.out.size))
          clear hb3 HSZ0 HBQ HAZ
          go_wp2_with fail
          go_ret
          exact ⟨rfl, HBW.out _ HB3.out⟩
        · have HNB := Lib.hid (told_nb HY1.out)
          rw [hge] at HG0
          generalize toldN x1 = N at *
          have HSEC := Lib.hid hsec
          have HCK2 := Lib.hid hck2
          clear hge hck2 hsec h512 HTWO
          go_wp2_with fail
          refine HG0.out.mono ?_
          rintro e y1 ⟨kz, vz, pz, rfl, hnr, hq⟩
          obtain ⟨az, cz, hk⟩ := hnr.ks.shape
          obtain ⟨bz, dz, hv⟩ := hnr.vs.shape
          obtain ⟨ez, fz, hp⟩ := hnr.ps.shape
          replace hk : kz = .slice az N.ks.length cz := hk
          replace hv : vz = .slice bz N.vs.length dz := hv
          replace hp : pz = .slice ez N.ps.length fz := hp
          subst hk hv hp
          have SEZ := Lib.hid (size_node N.lf (.slice az N.ks.length cz) (.slice bz N.vs.length dz) (.slice ez N.ps.length fz))
          have hb2 := (Below.refl y1.heap.size y1).alloc (Nat.le_refl _) (.cells #[.bool N.lf, .slice az N.ks.length cz, .slice bz N.vs.length dz, .slice ez N.ps.length fz] 25)
          have haz := heap_alloc_new y1 (.cells #[.bool N.lf, .slice az N.ks.length cz, .slice bz N.vs.length dz, .slice ez N.ps.length fz] 25)
          have hs2 : y1.heap.size < (y1.alloc (.cells #[.bool N.lf, .slice az N.ks.length cz, .slice bz N.vs.length dz, .slice ez N.ps.length fz] 25)).heap.size := by simp
          have hnr2 := hnr.below hb2
          have HBQ := Lib.hid ((HBE.out.trans (hq.mono HBE.out.size)).trans (hb2.mono (HBE.out.trans (hq.mono HBE.out.size)).size))
          clear hnr hq hb2 HG0
          go_upto_region 18 with fail
          generalize hy2 : World.alloc y1 _ = y2 at *
          clear hy2
          have HAZ := Lib.hid haz
          have HAY := Lib.hid (fun W (b : Below y2.heap.size y2 W) => (b.block y1.heap.size hs2).trans haz)
          have HPN := Lib.hid (nput_any _ _ _ N y2 hnr2 HNB.out HCK2.out)
          rw [HSEC.out] at HPN
          have HCN := Lib.hid (fun W (b : Below y2.heap.size y2 W) => ncheck_any _ _ _ N W (hnr2.below b) HNB.out)
          rw [HCK2.out] at HCN
          clear hnr2 haz hs2
          go_wp2_with (first
            | (with_reducible refine wpList_load_row (o := ⟨some 86, _, _, _, _, _⟩) rfl 25 _ rfl y1.heap.size rfl 25 _ (0, 0) _ HAZ.out Try.underlying25 rfl SEZ.out ?_))
          refine HPN.out.mono ?_
          rintro e y3 ⟨aw, cw, rfl, hcw, hbs, hb3⟩
          have HAZ3 := Lib.hid (HAY.out y3 hb3)
          have HCN3 := Lib.hid (HCN.out y3 hb3)
          have HB3 := Lib.hid (HBQ.out.trans (hb3.mono HBQ.out.size))
          have HSQ := Lib.hid (same_eq y3 _ _ x1 hbs (HXB.out y3 HB3.out))
          clear hb3 hbs hcw HPN HBQ HAZ HAY HCN
          go_wp2_with fail
          refine HSQ.out.mono ?_
          rintro e _ ⟨rfl, rfl⟩
          go_wp2_with (first
            | (with_reducible refine wpList_load_guarded (o := ⟨some 98, _, _, _, _, _⟩) (by kernel_rfl) 25 _ rfl y1.heap.size rfl 25 _ (0, 0) _ HAZ3.out Try.underlying25 rfl SEZ.out ?_))
          refine HCN3.out.mono ?_
          rintro e y4 ⟨rfl, hb4⟩
          have HB4 := Lib.hid (HB3.out.trans (hb4.mono HB3.out.size))
          clear hb4 HCN3 HSQ HB3
          go_wp2_with fail
          go_ret
          exact ⟨rfl, HBW.out _ HB4.out⟩
set_option maxRecDepth 100000 in
theorem lifted (os : Os) (started : os.Started) (H : Type) (enc : TypeId × Value → H) :
    ReturnsInHanded {} Try.checked os 6 .any (Rows.nodeBackSpec.pre6 enc Try.prog Try.f6 Rows.nodeBackRow.domain false) (Rows.nodeBackSpec.post enc Try.prog Try.f6 false true false false) := by
  refine returnsInHanded_of_change_sized (C := Try.checked) own started (by kernel_rfl) Try.func6
    (ChangeSpec.witness6 (enc := enc) (C := Try.checked) false ⟨#[], #[.agg #[.bool false, .slice none 0 0, .slice none 0 0, .slice none 0 0], .slice none 0 0], []⟩ 8 (by kernel_rfl) (by kernel_rfl) (by kernel_rfl) (by kernel_rfl)) ?_
  intro W base args ds gs before hval0 hW hcnd hsz0 _
  have hsz : (DataW.weightsEach Try.prog (Try.f6.params.toList ++ Rows.nodeBackSpec.plain.varTypes Try.prog) (ds ++ gs)).all (· ≤ reachBytes) = true := hsz0
  clear hsz0
  have hval : ∀ (j : Nat) t v, Try.f6.params[j]? = some t → args[j]? = some v → Value.okWide Try.prog W .any base t v := hval0
  have hW' := hW
  obtain ⟨p, q, hA0, hV, rfl, hfz, hnd⟩ := hW
  have hA : DataW.TrodAll enc Try.prog W 0 (fun _ => true) true Try.f6.params.toList args.toList ds p := hA0
  rw [Try.params6] at hA hval hsz
  obtain ⟨v0, vs0, d0, ds0, p0, q0, hargs, rfl, rfl, h0, r0⟩ := trodAll_cons hA
  obtain ⟨v1, vs1, d1, ds1, p1, q1, rfl, rfl, rfl, h1, r1⟩ := trodAll_cons r0
  obtain ⟨rfl, rfl, rfl⟩ := trodAll_nil r1
  obtain rfl : args = #[v0, v1] := by cases args; simp_all
  obtain ⟨rfl, rfl⟩ := trodVars_none hV
  have k0 := h0
  have lt0 : ∀ x ∈ p0, x.block < W.heap.size := by obtain ⟨m, hm⟩ := k0; exact DataW.trod_lt m _ _ _ hm
  have k1 := h1
  have lt1 : ∀ x ∈ p1, x.block < W.heap.size := by obtain ⟨m, hm⟩ := k1; exact DataW.trod_lt m _ _ _ hm
  obtain ⟨kk0, vv0, pp0, n0, rfl, nr0, nb0⟩ := par_node (j := 0) (hval 0 25 v0 rfl rfl) h0 hsz rfl rfl
  obtain ⟨a1, len1, cap1, x1, rfl, e1, m1, n1, b1⟩ := par_bytes (j := 1) (hval 1 28 v1 rfl rfl) h1 hsz rfl rfl
  clear hA0 hval0
  simp only [List.append_nil] at hW'
  refine (walk W kk0 vv0 pp0 n0 nr0 nb0 a1 len1 cap1 x1 e1 m1 n1 b1).mono fun e W' ⟨he, bel⟩ => ?_
  subst he
  exact ⟨_, rfl, _, _, _, [], _, [], hW', trodAll_mk1 (shut_bool Try.underlying4 _), (trodAll_cons_mk (Below.trod laidOut (by kernel_rfl) (of_decide_eq_true (by kernel_rfl)) k0 bel lt0) (trodAll_cons_mk (Below.trod laidOut (by kernel_rfl) (of_decide_eq_true (by kernel_rfl)) k1 bel lt1) trodAll_mk0)), rfl, bel.frame _, fun h => by cases h⟩

theorem over : Rows.nodeBackRow.holds Try.pinned (OpenSpec.ofChange Rows.nodeBackSpec) :=
  OpenClaim.holds_of_wide 6 Try.f6 rfl rfl rfl rfl rfl rfl rfl ⟨rfl, rfl, rfl, rfl, rfl⟩ rfl rfl rfl rfl rfl (by kernel_rfl) Try.func6 (by kernel_rfl)
    (of_decide_eq_true (by kernel_rfl)) (by unfold Func.isWrapper; first | (rw [if_pos (by decide +kernel)]; kernel_rfl) | (rw [if_neg (by decide +kernel)]; exact ⟨rfl, rfl⟩))
    (fun os started H enc _ => lifted os started H enc)

/-- The statement. -/
theorem proved : Rows.NodeBackSaid := over
#print axioms proved
end Go.Proofs.Ytcgddhainmnebaa.nodeBack
