/-
  'NodeGets' returns true at every input, and each argument reads behind the call as it read before. Conditions: none.
-/
import Derived.Test.YtcgddhainmnebaaRows
import Derived.Test.YtcgddhainmnebaaAes0
import Derived.Test.YtcgddhainmnebaaTg
namespace Go.Proofs.Ytcgddhainmnebaa.nodeGets
open Go.ChangeShapes Go.WideShapes Go.ChangeAt Go.RowKit
set_option linter.unusedVariables false

theorem get_two (l : List Int) : (∃ c, getN l = (zeroNode, c) ∧ (c = 2 ∨ c = 4)) ∨ (getN l = (toldN l, 0) ∧ checkN (toldN l) = 0 ∧ secB (toldN l) = l ∧ l.length = 512) := by
  by_cases h : l.length = 512
  · by_cases h2 : checkN (toldN l) = 0 ∧ secB (toldN l) = l
    · exact .inr ⟨by unfold getN; rw [if_neg (by simp [h]), if_pos h2], h2.1, h2.2, h⟩
    · exact .inl ⟨4, by unfold getN; rw [if_neg (by simp [h]), if_neg h2], .inr rfl⟩
  · exact .inl ⟨2, by unfold getN; rw [if_pos h], .inl rfl⟩
theorem lit_nob (W : World) : (Instr.buildSlice 28 0 #[]).run Try.prog W = .ok (.slice (some ⟨W.heap.size, 0, none⟩) 0 0) (W.alloc (.cells #[] 5)) := by
  obtain ⟨i, hi, hs⟩ := Option.map_eq_some_iff.1 (show (Try.prog.info? 5).map (·.size) = some 1 by kernel_rfl)
  simp [Instr.buildSlice, run_underlying Try.underlying28, sizeOf, typeInfo, hi, Instr.fill, newRow]
  exact congrArg (fun x => W.alloc (Obj.cells x 5)) (Array.eq_empty_of_size_eq_zero (by simp))
/-- A row of one's own out of any bytes. -/
theorem copied (w : World) (v : Value) (l : List Int) (h : BS w v l) (h63 : l.length ≤ 1000000) : ∃ a c w', (Builtin.append_ #[28, 28] 28 #[.slice (some ⟨w.heap.size, 0, none⟩) 0 0, v]).run Try.prog (w.alloc (.cells #[] 5)) = .ok (.slice a l.length c) w' ∧ w'.ownsRow w.heap.size 5 1 (.slice a l.length c) l.length (l.map (Value.int .u8)) ∧ Below w.heap.size w w' := by
  have hb := (Below.refl w.heap.size w).alloc (Nat.le_refl _) (.cells #[] 5)
  have ho := World.ownsRow_lit (base := w.heap.size) (e := 5) (size := 1) w #[] 0 (Nat.le_refl _) (by unfold maxLen; omega) rfl
  obtain ⟨v', w', h1, h2, h3, _⟩ := run_append_BS_at (w.alloc (.cells #[] 5)) w.heap.size 0 (.slice (some ⟨w.heap.size, 0, none⟩) 0 0) v [] l ho (h.kept hb) (by omega) hb.size
  rw [Nat.zero_add] at h2
  obtain ⟨a, c, rfl⟩ := own_shape8 h2
  exact ⟨a, c, w', h1, by simpa using h2, hb.trans (grown_below h3 hb.size (fun g e => by simp [Value.ownBlock] at e; omega))⟩
theorem get_nb (l : List Int) (h : Byt l) : NB (getN l).1 ∧ (getN l).1.ps.length ≤ 1000000 := by
  rcases get_two l with ⟨c, hg, _⟩ | ⟨hg, _⟩
  · rw [hg]; exact ⟨nb_zero, (Nat.zero_le 1000000 : (0 : Nat) ≤ 1000000)⟩
  · rw [hg]; exact ⟨told_nb h, Nat.le_trans (told_few h).2.2 (by decide)⟩

set_option maxRecDepth 100000 in
set_option maxHeartbeats 3200000 in
theorem walk (w : World) (a0 : Option Addr) (len0 cap0 : Nat) (x0 : List Int) (e0 : x0.length = len0) (m0 : len0 ≤ cap0) (n0 : cap0 ≤ 140737488351232) (b0 : BS w (.slice a0 len0 cap0) x0) (o1 : Bool) :
    Calls Try.prog 4 #[.slice a0 len0 cap0, .bool o1] w fun e w' => e = .returned (.bool true) ∧ Below w.heap.size w w' := by
  have lI : (len0 : Int) ≤ 140737488351232 := by omega
  have l0 : (0 : Int) ≤ (len0 : Int) := by omega
  have HAL := Lib.hid (alive9_any w)
  have HX1 := Lib.hid b0
  have HXL := Lib.hid (show x0.length ≤ 140737488351232 by rw [e0]; omega)
  have HLE := Lib.hid (And.intro e0 m0)
  clear e0 m0 n0 b0
  go_enter Try.func4, Try.ntmps4
  go_wp2_with fail
  refine HAL.out.mono ?_
  rintro e w2 ⟨rfl, hb2⟩
  have HB2 := Lib.hid hb2
  have HX2 := Lib.hid (HX1.out.kept hb2)
  clear hb2 HAL HX1
  by_cases hbig : 2000 < len0
  · have hbg : decide ((2000 : Int) < (len0 : Int)) = true := by rw [decide_eq_true_iff]; omega
    clear hbig
    go_wp2_with fail
    go_ret
    exact ⟨rfl, HB2.out⟩
  · have hbg : decide ((2000 : Int) < (len0 : Int)) = false := by rw [decide_eq_false_iff_not]; omega
    clear hbig
    cases o1 with
    | false =>
      have HX := Lib.hid HX2.out
      have HN := Lib.hid HLE.out.1
      have HC := Lib.hid HLE.out.2
      have H63 := Lib.hid HXL.out
      have HB := Lib.hid HB2.out
      clear HX2 HLE HXL HB2
      have HG1 := Lib.hid (nget_any _ _ w2 HX.out H63.out)
      have HGB := Lib.hid (get_nb x0 HX.out.byt)
      obtain ⟨⟨N, gc⟩, hg⟩ : ∃ g, getN x0 = g := ⟨_, rfl⟩
      rw [hg] at HG1 HGB
      have HGE := Lib.hid hg
      clear hg
      go_wp2_with fail
      refine HG1.out.mono ?_
      rintro e y1 ⟨kz, vz, pz, rfl, hnr, hq⟩
      obtain ⟨az, cz, hk⟩ := hnr.ks.shape
      obtain ⟨bz, dz, hv⟩ := hnr.vs.shape
      obtain ⟨ez, fz, hp⟩ := hnr.ps.shape
      replace hk : kz = .slice az N.ks.length cz := hk
      replace hv : vz = .slice bz N.vs.length dz := hv
      replace hp : pz = .slice ez N.ps.length fz := hp
      subst hk hv hp
      have SEZ := Lib.hid (size_node N.lf (.slice az N.ks.length cz) (.slice bz N.vs.length dz) (.slice ez N.ps.length fz))
      have hb2 := (Below.refl y1.heap.size y1).alloc (Nat.le_refl _) (.cells #[.bool N.lf, .slice az N.ks.length cz, .slice bz N.vs.length dz, .slice ez N.ps.length fz] 25)
      have haz := heap_alloc_new y1 (.cells #[.bool N.lf, .slice az N.ks.length cz, .slice bz N.vs.length dz, .slice ez N.ps.length fz] 25)
      have hs2 : y1.heap.size < (y1.alloc (.cells #[.bool N.lf, .slice az N.ks.length cz, .slice bz N.vs.length dz, .slice ez N.ps.length fz] 25)).heap.size := by simp
      have hnr2 := hnr.below hb2
      have hx2 := (HX.out.kept hq).kept hb2
      have HB2 := Lib.hid ((HB.out.trans (hq.mono HB.out.size)).trans (hb2.mono (HB.out.trans (hq.mono HB.out.size)).size))
      clear hnr hq hb2 HG1 HB HX
      go_upto_region 8 with fail
      generalize hy2 : World.alloc y1 _ = y2 at *
      clear hy2
      have HG2 := Lib.hid (rget9_any _ _ _ _ y2 hx2 HN.out HC.out H63.out)
      rw [HGE.out] at HG2
      have HNR2 := Lib.hid hnr2
      have HAZ := Lib.hid haz
      have HS2 := Lib.hid hs2
      obtain ⟨G, hG⟩ : ∃ G, y1.heap.size = G := ⟨_, rfl⟩
      try rw [hG]
      rw [hG] at HAZ HS2
      clear hnr2 haz hs2 hx2 hG
      go_wp2_with fail
      refine HG2.out.mono ?_
      rintro e y3 ⟨kw, vw, pw, rfl, hnr, hq⟩
      obtain ⟨aw, cw, hk⟩ := hnr.ks.shape
      obtain ⟨bw, dw, hv⟩ := hnr.vs.shape
      obtain ⟨ew, fw, hp⟩ := hnr.ps.shape
      replace hk : kw = .slice aw N.ks.length cw := hk
      replace hv : vw = .slice bw N.vs.length dw := hv
      replace hp : pw = .slice ew N.ps.length fw := hp
      subst hk hv hp
      have SEW := Lib.hid (size_node N.lf (.slice aw N.ks.length cw) (.slice bw N.vs.length dw) (.slice ew N.ps.length fw))
      have hb4 := (Below.refl y3.heap.size y3).alloc (Nat.le_refl _) (.cells #[.bool N.lf, .slice aw N.ks.length cw, .slice bw N.vs.length dw, .slice ew N.ps.length fw] 25)
      have haw := heap_alloc_new y3 (.cells #[.bool N.lf, .slice aw N.ks.length cw, .slice bw N.vs.length dw, .slice ew N.ps.length fw] 25)
      have hnr4 := hnr.below hb4
      have hnz4 := (HNR2.out.below hq).below hb4
      have HAZ4 := Lib.hid ((hb4.block G (Nat.lt_of_lt_of_le HS2.out hq.size)).trans ((hq.block G HS2.out).trans HAZ.out))
      have HB4 := Lib.hid ((HB2.out.trans (hq.mono HB2.out.size)).trans (hb4.mono (HB2.out.trans (hq.mono HB2.out.size)).size))
      clear hnr hq hb4 HG2 HB2 HNR2 HAZ HS2
      go_upto_region 9 with fail
      generalize hy4 : World.alloc y3 _ = y4 at *
      clear hy4
      have HSM := Lib.hid (rsame9_any _ _ _ _ _ _ N N y4 hnz4 hnr4 HGB.out.1 HGB.out.1 HGB.out.2 HGB.out.2)
      rw [sameN_refl] at HSM
      have HAW := Lib.hid haw
      obtain ⟨G2, hG2⟩ : ∃ G2, y3.heap.size = G2 := ⟨_, rfl⟩
      try rw [hG2]
      rw [hG2] at HAW
      have hcc : (gc == gc) = true := by simp
      clear hnr4 hnz4 haw hG2
      go_wp2_with (first
        | (with_reducible refine wpList_load_row (o := ⟨some 37, _, _, _, _, _⟩) rfl 25 _ rfl G rfl 25 _ (0, 0) _ HAZ4.out Try.underlying25 rfl SEZ.out ?_)
        | (with_reducible refine wpList_load_row (o := ⟨some 38, _, _, _, _, _⟩) rfl 25 _ rfl G2 rfl 25 _ (0, 0) _ HAW.out Try.underlying25 rfl SEW.out ?_))
      refine HSM.out.mono ?_
      rintro e y5 ⟨rfl, hb5⟩
      have HB5 := Lib.hid (HB4.out.trans (hb5.mono HB4.out.size))
      clear hb5 HSM HB4 HAZ4 HAW
      go_wp2_with fail
      go_ret
      exact ⟨rfl, HB5.out⟩
    | true =>
      by_cases hs : len0 < 512
      · have hsd : decide ((len0 : Int) < 512) = true := by rw [decide_eq_true_iff]; omega
        obtain ⟨m, hm⟩ : ∃ m : Nat, (512 : Int) - (len0 : Int) = (m : Int) := ⟨512 - len0, by omega⟩
        have hm5 : len0 + m = 512 := by omega
        obtain ⟨a3, c3, w3, hr3, ho3, hb3⟩ := copied w2 _ x0 HX2.out (by rw [HLE.out.1]; omega)
        rw [HLE.out.1] at hr3 ho3
        obtain ⟨v4, w4, hr4, ho4, hg4, _⟩ := run_append_zeros7 w3 w2.heap.size len0 m (.slice a3 len0 c3) _ 28 ho3 (by omega) hb3.size
        obtain ⟨a4, c4, rfl⟩ := own_shape8 ho4
        rw [hm5] at hr4 ho4
        have hxl : (x0 ++ List.replicate m 0).length = 512 := by rw [List.length_append, List.length_replicate, HLE.out.1]; exact hm5
        obtain ⟨a5, c5, hv5, hc5, hbs5⟩ := own_bs (l := x0 ++ List.replicate m 0) (by rw [List.map_append, List.map_replicate]; exact ho4) hxl (fun z hz => by
          rcases List.mem_append.1 hz with hz | hz
          · exact HX2.out.byt z hz
          · rw [(List.mem_replicate.1 hz).2]; omega)
        injection hv5 with q1 q2 q3
        subst q1 q3
        have HR3 := Lib.hid hr3
        have HR4 := Lib.hid hr4
        have HB := Lib.hid (HB2.out.trans ((hb3.trans (grown_below hg4 hb3.size (fun g e => (ho3.lt g e).1))).mono HB2.out.size))
        have HX := Lib.hid hbs5
        have HN := Lib.hid hxl
        have HC := Lib.hid hc5
        have H63 := Lib.hid (show (x0 ++ List.replicate m 0).length ≤ 140737488351232 by rw [hxl]; decide)
        obtain ⟨XL, hXL⟩ : ∃ XL, x0 ++ List.replicate m 0 = XL := ⟨_, rfl⟩
        rw [hXL] at HX HN H63
        have mI : (m : Int) ≤ 512 := by omega
        have m0' : (0 : Int) ≤ (m : Int) := by omega
        clear hr3 ho3 hb3 hr4 ho4 hg4 hxl hc5 hbs5 HX2 HLE HXL HB2 hXL hm5
        go_upto_region 7 with (first
          | (at_builtin; refine wpList_append_run (o := ⟨some 22, _, _, _, _, _⟩) rfl _ _ _ _ rfl _ _ _ _ rfl rfl HR3.out ?_)
          | (at_builtin; refine wpList_append_run (o := ⟨some 26, _, _, _, _, _⟩) rfl _ _ _ _ rfl _ _ _ _ rfl rfl HR4.out ?_))
        clear HR3 HR4 hm mI m0'
        have HG1 := Lib.hid (nget_any _ _ w4 HX.out H63.out)
        have HGB := Lib.hid (get_nb XL HX.out.byt)
        obtain ⟨⟨N, gc⟩, hg⟩ : ∃ g, getN XL = g := ⟨_, rfl⟩
        rw [hg] at HG1 HGB
        have HGE := Lib.hid hg
        clear hg
        go_wp2_with fail
        refine HG1.out.mono ?_
        rintro e y1 ⟨kz, vz, pz, rfl, hnr, hq⟩
        obtain ⟨az, cz, hk⟩ := hnr.ks.shape
        obtain ⟨bz, dz, hv⟩ := hnr.vs.shape
        obtain ⟨ez, fz, hp⟩ := hnr.ps.shape
        replace hk : kz = .slice az N.ks.length cz := hk
        replace hv : vz = .slice bz N.vs.length dz := hv
        replace hp : pz = .slice ez N.ps.length fz := hp
        subst hk hv hp
        have SEZ := Lib.hid (size_node N.lf (.slice az N.ks.length cz) (.slice bz N.vs.length dz) (.slice ez N.ps.length fz))
        have hb2 := (Below.refl y1.heap.size y1).alloc (Nat.le_refl _) (.cells #[.bool N.lf, .slice az N.ks.length cz, .slice bz N.vs.length dz, .slice ez N.ps.length fz] 25)
        have haz := heap_alloc_new y1 (.cells #[.bool N.lf, .slice az N.ks.length cz, .slice bz N.vs.length dz, .slice ez N.ps.length fz] 25)
        have hs2 : y1.heap.size < (y1.alloc (.cells #[.bool N.lf, .slice az N.ks.length cz, .slice bz N.vs.length dz, .slice ez N.ps.length fz] 25)).heap.size := by simp
        have hnr2 := hnr.below hb2
        have hx2 := (HX.out.kept hq).kept hb2
        have HB2 := Lib.hid ((HB.out.trans (hq.mono HB.out.size)).trans (hb2.mono (HB.out.trans (hq.mono HB.out.size)).size))
        clear hnr hq hb2 HG1 HB HX
        go_upto_region 8 with fail
        generalize hy2 : World.alloc y1 _ = y2 at *
        clear hy2
        have HG2 := Lib.hid (rget9_any _ _ _ _ y2 hx2 HN.out HC.out H63.out)
        rw [HGE.out] at HG2
        have HNR2 := Lib.hid hnr2
        have HAZ := Lib.hid haz
        have HS2 := Lib.hid hs2
        obtain ⟨G, hG⟩ : ∃ G, y1.heap.size = G := ⟨_, rfl⟩
        try rw [hG]
        rw [hG] at HAZ HS2
        clear hnr2 haz hs2 hx2 hG
        go_wp2_with fail
        refine HG2.out.mono ?_
        rintro e y3 ⟨kw, vw, pw, rfl, hnr, hq⟩
        obtain ⟨aw, cw, hk⟩ := hnr.ks.shape
        obtain ⟨bw, dw, hv⟩ := hnr.vs.shape
        obtain ⟨ew, fw, hp⟩ := hnr.ps.shape
        replace hk : kw = .slice aw N.ks.length cw := hk
        replace hv : vw = .slice bw N.vs.length dw := hv
        replace hp : pw = .slice ew N.ps.length fw := hp
        subst hk hv hp
        have SEW := Lib.hid (size_node N.lf (.slice aw N.ks.length cw) (.slice bw N.vs.length dw) (.slice ew N.ps.length fw))
        have hb4 := (Below.refl y3.heap.size y3).alloc (Nat.le_refl _) (.cells #[.bool N.lf, .slice aw N.ks.length cw, .slice bw N.vs.length dw, .slice ew N.ps.length fw] 25)
        have haw := heap_alloc_new y3 (.cells #[.bool N.lf, .slice aw N.ks.length cw, .slice bw N.vs.length dw, .slice ew N.ps.length fw] 25)
        have hnr4 := hnr.below hb4
        have hnz4 := (HNR2.out.below hq).below hb4
        have HAZ4 := Lib.hid ((hb4.block G (Nat.lt_of_lt_of_le HS2.out hq.size)).trans ((hq.block G HS2.out).trans HAZ.out))
        have HB4 := Lib.hid ((HB2.out.trans (hq.mono HB2.out.size)).trans (hb4.mono (HB2.out.trans (hq.mono HB2.out.size)).size))
        clear hnr hq hb4 HG2 HB2 HNR2 HAZ HS2
        go_upto_region 9 with fail
        generalize hy4 : World.alloc y3 _ = y4 at *
        clear hy4
        have HSM := Lib.hid (rsame9_any _ _ _ _ _ _ N N y4 hnz4 hnr4 HGB.out.1 HGB.out.1 HGB.out.2 HGB.out.2)
        rw [sameN_refl] at HSM
        have HAW := Lib.hid haw
        obtain ⟨G2, hG2⟩ : ∃ G2, y3.heap.size = G2 := ⟨_, rfl⟩
        try rw [hG2]
        rw [hG2] at HAW
        have hcc : (gc == gc) = true := by simp
        clear hnr4 hnz4 haw hG2
        go_wp2_with (first
          | (with_reducible refine wpList_load_row (o := ⟨some 37, _, _, _, _, _⟩) rfl 25 _ rfl G rfl 25 _ (0, 0) _ HAZ4.out Try.underlying25 rfl SEZ.out ?_)
          | (with_reducible refine wpList_load_row (o := ⟨some 38, _, _, _, _, _⟩) rfl 25 _ rfl G2 rfl 25 _ (0, 0) _ HAW.out Try.underlying25 rfl SEW.out ?_))
        refine HSM.out.mono ?_
        rintro e y5 ⟨rfl, hb5⟩
        have HB5 := Lib.hid (HB4.out.trans (hb5.mono HB4.out.size))
        clear hb5 HSM HB4 HAZ4 HAW
        go_wp2_with fail
        go_ret
        exact ⟨rfl, HB5.out⟩
      · have hsd : decide ((len0 : Int) < 512) = false := by rw [decide_eq_false_iff_not]; omega
        clear hs
        have HX := Lib.hid HX2.out
        have HN := Lib.hid HLE.out.1
        have HC := Lib.hid HLE.out.2
        have H63 := Lib.hid HXL.out
        have HB := Lib.hid HB2.out
        clear HX2 HLE HXL HB2
        have HG1 := Lib.hid (nget_any _ _ w2 HX.out H63.out)
        have HGB := Lib.hid (get_nb x0 HX.out.byt)
        obtain ⟨⟨N, gc⟩, hg⟩ : ∃ g, getN x0 = g := ⟨_, rfl⟩
        rw [hg] at HG1 HGB
        have HGE := Lib.hid hg
        clear hg
        go_wp2_with fail
        refine HG1.out.mono ?_
        rintro e y1 ⟨kz, vz, pz, rfl, hnr, hq⟩
        obtain ⟨az, cz, hk⟩ := hnr.ks.shape
        obtain ⟨bz, dz, hv⟩ := hnr.vs.shape
        obtain ⟨ez, fz, hp⟩ := hnr.ps.shape
        replace hk : kz = .slice az N.ks.length cz := hk
        replace hv : vz = .slice bz N.vs.length dz := hv
        replace hp : pz = .slice ez N.ps.length fz := hp
        subst hk hv hp
        have SEZ := Lib.hid (size_node N.lf (.slice az N.ks.length cz) (.slice bz N.vs.length dz) (.slice ez N.ps.length fz))
        have hb2 := (Below.refl y1.heap.size y1).alloc (Nat.le_refl _) (.cells #[.bool N.lf, .slice az N.ks.length cz, .slice bz N.vs.length dz, .slice ez N.ps.length fz] 25)
        have haz := heap_alloc_new y1 (.cells #[.bool N.lf, .slice az N.ks.length cz, .slice bz N.vs.length dz, .slice ez N.ps.length fz] 25)
        have hs2 : y1.heap.size < (y1.alloc (.cells #[.bool N.lf, .slice az N.ks.length cz, .slice bz N.vs.length dz, .slice ez N.ps.length fz] 25)).heap.size := by simp
        have hnr2 := hnr.below hb2
        have hx2 := (HX.out.kept hq).kept hb2
        have HB2 := Lib.hid ((HB.out.trans (hq.mono HB.out.size)).trans (hb2.mono (HB.out.trans (hq.mono HB.out.size)).size))
        clear hnr hq hb2 HG1 HB HX
        go_upto_region 8 with fail
        generalize hy2 : World.alloc y1 _ = y2 at *
        clear hy2
        have HG2 := Lib.hid (rget9_any _ _ _ _ y2 hx2 HN.out HC.out H63.out)
        rw [HGE.out] at HG2
        have HNR2 := Lib.hid hnr2
        have HAZ := Lib.hid haz
        have HS2 := Lib.hid hs2
        obtain ⟨G, hG⟩ : ∃ G, y1.heap.size = G := ⟨_, rfl⟩
        try rw [hG]
        rw [hG] at HAZ HS2
        clear hnr2 haz hs2 hx2 hG
        go_wp2_with fail
        refine HG2.out.mono ?_
        rintro e y3 ⟨kw, vw, pw, rfl, hnr, hq⟩
        obtain ⟨aw, cw, hk⟩ := hnr.ks.shape
        obtain ⟨bw, dw, hv⟩ := hnr.vs.shape
        obtain ⟨ew, fw, hp⟩ := hnr.ps.shape
        replace hk : kw = .slice aw N.ks.length cw := hk
        replace hv : vw = .slice bw N.vs.length dw := hv
        replace hp : pw = .slice ew N.ps.length fw := hp
        subst hk hv hp
        have SEW := Lib.hid (size_node N.lf (.slice aw N.ks.length cw) (.slice bw N.vs.length dw) (.slice ew N.ps.length fw))
        have hb4 := (Below.refl y3.heap.size y3).alloc (Nat.le_refl _) (.cells #[.bool N.lf, .slice aw N.ks.length cw, .slice bw N.vs.length dw, .slice ew N.ps.length fw] 25)
        have haw := heap_alloc_new y3 (.cells #[.bool N.lf, .slice aw N.ks.length cw, .slice bw N.vs.length dw, .slice ew N.ps.length fw] 25)
        have hnr4 := hnr.below hb4
        have hnz4 := (HNR2.out.below hq).below hb4
        have HAZ4 := Lib.hid ((hb4.block G (Nat.lt_of_lt_of_le HS2.out hq.size)).trans ((hq.block G HS2.out).trans HAZ.out))
        have HB4 := Lib.hid ((HB2.out.trans (hq.mono HB2.out.size)).trans (hb4.mono (HB2.out.trans (hq.mono HB2.out.size)).size))
        clear hnr hq hb4 HG2 HB2 HNR2 HAZ HS2
        go_upto_region 9 with fail
        generalize hy4 : World.alloc y3 _ = y4 at *
        clear hy4
        have HSM := Lib.hid (rsame9_any _ _ _ _ _ _ N N y4 hnz4 hnr4 HGB.out.1 HGB.out.1 HGB.out.2 HGB.out.2)
        rw [sameN_refl] at HSM
        have HAW := Lib.hid haw
        obtain ⟨G2, hG2⟩ : ∃ G2, y3.heap.size = G2 := ⟨_, rfl⟩
        try rw [hG2]
        rw [hG2] at HAW
        have hcc : (gc == gc) = true := by simp
        clear hnr4 hnz4 haw hG2
        go_wp2_with (first
          | (with_reducible refine wpList_load_row (o := ⟨some 37, _, _, _, _, _⟩) rfl 25 _ rfl G rfl 25 _ (0, 0) _ HAZ4.out Try.underlying25 rfl SEZ.out ?_)
          | (with_reducible refine wpList_load_row (o := ⟨some 38, _, _, _, _, _⟩) rfl 25 _ rfl G2 rfl 25 _ (0, 0) _ HAW.out Try.underlying25 rfl SEW.out ?_))
        refine HSM.out.mono ?_
        rintro e y5 ⟨rfl, hb5⟩
        have HB5 := Lib.hid (HB4.out.trans (hb5.mono HB4.out.size))
        clear hb5 HSM HB4 HAZ4 HAW
        go_wp2_with fail
        go_ret
        exact ⟨rfl, HB5.out⟩
set_option maxRecDepth 100000 in
theorem lifted (os : Os) (started : os.Started) (H : Type) (enc : TypeId × Value → H) :
    ReturnsInHanded {} Try.checked os 4 .any (Rows.nodeGetsSpec.pre6 enc Try.prog Try.f4 Rows.nodeGetsRow.domain false) (Rows.nodeGetsSpec.post enc Try.prog Try.f4 false true false false) := by
  refine returnsInHanded_of_change_sized (C := Try.checked) own started (by kernel_rfl) Try.func4
    (ChangeSpec.witness6 (enc := enc) (C := Try.checked) false ⟨#[], #[.slice none 0 0, .bool false], []⟩ 8 (by kernel_rfl) (by kernel_rfl) (by kernel_rfl) (by kernel_rfl)) ?_
  intro W base args ds gs before hval0 hW hcnd hsz0 _
  have hsz : (DataW.weightsEach Try.prog (Try.f4.params.toList ++ Rows.nodeGetsSpec.plain.varTypes Try.prog) (ds ++ gs)).all (· ≤ reachBytes) = true := hsz0
  clear hsz0
  have hval : ∀ (j : Nat) t v, Try.f4.params[j]? = some t → args[j]? = some v → Value.okWide Try.prog W .any base t v := hval0
  have hW' := hW
  obtain ⟨p, q, hA0, hV, rfl, hfz, hnd⟩ := hW
  have hA : DataW.TrodAll enc Try.prog W 0 (fun _ => true) true Try.f4.params.toList args.toList ds p := hA0
  rw [Try.params4] at hA hval hsz
  obtain ⟨v0, vs0, d0, ds0, p0, q0, hargs, rfl, rfl, h0, r0⟩ := trodAll_cons hA
  obtain ⟨v1, vs1, d1, ds1, p1, q1, rfl, rfl, rfl, h1, r1⟩ := trodAll_cons r0
  obtain ⟨rfl, rfl, rfl⟩ := trodAll_nil r1
  obtain rfl : args = #[v0, v1] := by cases args; simp_all
  obtain ⟨rfl, rfl⟩ := trodVars_none hV
  have k0 := h0
  have lt0 : ∀ x ∈ p0, x.block < W.heap.size := by obtain ⟨m, hm⟩ := k0; exact DataW.trod_lt m _ _ _ hm
  have k1 := h1
  have lt1 : ∀ x ∈ p1, x.block < W.heap.size := by obtain ⟨m, hm⟩ := k1; exact DataW.trod_lt m _ _ _ hm
  obtain ⟨a0, len0, cap0, x0, rfl, e0, m0, n0, b0⟩ := par_bytes (j := 0) (hval 0 28 v0 rfl rfl) h0 hsz rfl rfl
  obtain ⟨o1, rfl⟩ := par_bool (j := 1) Try.underlying4 (hval 1 4 v1 rfl rfl) h1 hsz rfl rfl
  clear hA0 hval0
  simp only [List.append_nil] at hW'
  refine (walk W a0 len0 cap0 x0 e0 m0 n0 b0 o1).mono fun e W' ⟨he, bel⟩ => ?_
  subst he
  exact ⟨_, rfl, _, _, _, [], _, [], hW', trodAll_mk1 (shut_bool Try.underlying4 _), (trodAll_cons_mk (Below.trod laidOut (by kernel_rfl) (of_decide_eq_true (by kernel_rfl)) k0 bel lt0) (trodAll_cons_mk (Below.trod laidOut (by kernel_rfl) (of_decide_eq_true (by kernel_rfl)) k1 bel lt1) trodAll_mk0)), rfl, bel.frame _, fun h => by cases h⟩

theorem over : Rows.nodeGetsRow.holds Try.pinned (OpenSpec.ofChange Rows.nodeGetsSpec) :=
  OpenClaim.holds_of_wide 4 Try.f4 rfl rfl rfl rfl rfl rfl rfl ⟨rfl, rfl, rfl, rfl, rfl⟩ rfl rfl rfl rfl rfl (by kernel_rfl) Try.func4 (by kernel_rfl)
    (of_decide_eq_true (by kernel_rfl)) (by unfold Func.isWrapper; first | (rw [if_pos (by decide +kernel)]; kernel_rfl) | (rw [if_neg (by decide +kernel)]; exact ⟨rfl, rfl⟩))
    (fun os started H enc _ => lifted os started H enc)

/-- The statement. -/
theorem proved : Rows.NodeGetsSaid := over
#print axioms proved
end Go.Proofs.Ytcgddhainmnebaa.nodeGets
