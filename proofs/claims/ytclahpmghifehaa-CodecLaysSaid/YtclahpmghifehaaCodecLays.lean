/-
  'CodecLays' returns true at every input, and each argument reads behind the call as it read before. Conditions: none.
-/
import Derived.Test.YtclahpmghifehaaRows
import Derived.Test.YtclahpmghifehaaYLaid
import Derived.Test.YtclahpmghifehaaGreat
namespace Go.Proofs.Ytclahpmghifehaa.codecLays
open Go.ChangeShapes Go.WideShapes Go.ChangeAt Go.RowKit
set_option linter.unusedVariables false


set_option maxRecDepth 100000 in
set_option maxHeartbeats 3200000 in
theorem walk (w : World) (a0 : Option Addr) (len0 cap0 : Nat) (x0 : List LayV) (sl0 : SlR RLayV 37 w x0 a0 len0 cap0) :
    Calls Try.prog 3 #[.slice a0 len0 cap0] w fun e w' => e = .returned (.bool true) ∧ Below w.heap.size w w' := by
  have lI : (len0 : Int) ≤ 140737488351232 := by have := sl0.big; have := sl0.cap; omega
  have HSL := Lib.hid sl0
  have HA := Lib.hid (alive7_any w)
  have hz := zero_writer
  clear sl0
  cases hG : greatG x0 with
  | true =>
    go_enter Try.func3, Try.ntmps3
    go_wp2_with fail
    refine HA.out.mono ?_
    rintro e w1 ⟨rfl, hb1⟩
    have HGR := Lib.hid (great_any w1 x0 a0 len0 cap0 ⟨HSL.out.len, HSL.out.cap, HSL.out.big, fun i h => by
      obtain ⟨b, off, cs, h1, ⟨h2, h3, h4⟩, h5, h6⟩ := HSL.out.here i h
      exact ⟨b, off, cs, h1, ⟨h2, h3.below hb1, h4⟩, h5, range_below h6 hb1⟩⟩)
    rw [hG] at HGR
    have HB1 := Lib.hid hb1
    clear hb1 HA hG
    go_wp2_with fail
    refine HGR.out.mono ?_
    rintro e w2 ⟨rfl, hb2⟩
    have HB2 := Lib.hid (HB1.out.trans (hb2.mono HB1.out.size))
    clear hb2 HGR
    go_wp2_with fail
    go_ret
    exact ⟨rfl, HB2.out⟩
  | false =>
    have HNG := Lib.hid (great_no x0 hG)
    have HLN := Lib.hid HSL.out.len
    go_enter Try.func3, Try.ntmps3
    go_wp2_with fail
    refine HA.out.mono ?_
    rintro e w1 ⟨rfl, hb1⟩
    have HGR := Lib.hid (great_any w1 x0 a0 len0 cap0 ⟨HSL.out.len, HSL.out.cap, HSL.out.big, fun i h => by
      obtain ⟨b, off, cs, h1, ⟨h2, h3, h4⟩, h5, h6⟩ := HSL.out.here i h
      exact ⟨b, off, cs, h1, ⟨h2, h3.below hb1, h4⟩, h5, range_below h6 hb1⟩⟩)
    rw [hG] at HGR
    have HB1 := Lib.hid hb1
    clear hb1 HA hG
    go_wp2_with fail
    refine HGR.out.mono ?_
    rintro e w2 ⟨rfl, hb2⟩
    have hb2' := HB1.out.trans (hb2.mono HB1.out.size)
    have HWW := Lib.hid (show WW w (w2.alloc (.cells #[.slice none 0 0] 27)) w2.heap.size (.slice none 0 0) (.slice none 0 0) [] [] from
      ⟨⟨heap_alloc_new w2 _, World.ownsRow_nil _ _ _ _, (by intro z hz; simp at hz)⟩, World.ownsRow_nil _ _ _ _, (by intro g hg; cases hg), hb2'.size, hb2'.alloc hb2'.size _⟩)
    clear hb2 hb2' HGR HB1
    go_wp2_with fail
    generalize w2.heap.size = P at *
    go_loopw [4, 15] (fun v4 v15 wr => ∃ (i : Nat) (l : List Int) (a n c : _) (v1 : Value), i ≤ len0 ∧ v15 = .int .i64 (i : Int) ∧ v4 = .slice a n c ∧ l.length ≤ i * 66000 ∧ WW w wr P v1 (.slice a n c) l l) (fun _ v _ => len0 - (intOf v).toNat)
    case atStart => exact ⟨0, [], none, 0, 0, _, by omega, rfl, rfl, by simp, HWW.out⟩
    case round =>
      obtain ⟨i, l, a, n, c, v1, hi, rfl, rfl, hll, hW⟩ := hrel
      have HB := Lib.hid hW.bel
      by_cases hlt : i < len0
      · obtain ⟨b, off, q, rfl, hxi, hok, _, hrg⟩ := lays_at HSL.out hW.bel hlt
        obtain ⟨_, _, q0, he0, hx0, hok0, hr0⟩ := lays_at HSL.out (Below.refl _ _) hlt
        obtain rfl : q0 = q := Option.some.inj (hx0.symm.trans hxi)
        have HOK0 := Lib.hid hok0
        clear hx0 hok0 he0 hr0
        have hix := index_lay b off len0 cap0 i hlt
        have hzl := zero_lay
        have SWC := Lib.hid (size_lay q0 hok.hash)
        have SWR := Lib.hid (show (Try.prog.info? 32).map (·.size) = some (layRow q0).toArray.size by rw [List.size_toArray]; exact size_lay q0 hok.hash)
        have EW := Lib.hid (show (layRow zeroLay).toArray.size = (layRow q0).toArray.size by rw [List.size_toArray, List.size_toArray, layRow_length q0 hok.hash, layRow_length zeroLay (by decide)])
        have WO := Lib.hid (lay_one q0)
        have HRG := Lib.hid hrg
        have HOK := Lib.hid hok
        have HLT := Lib.hid hlt
        have HW := Lib.hid hW
        have HLL := Lib.hid hll
        have HQB := Lib.hid (HNG.out.2 q0 (List.mem_of_getElem? hxi)).1
        have HI100 := Lib.hid (show i < 100 by have := HNG.out.1; have := HLN.out; omega)
        have iI : (i : Int) < (len0 : Int) := by omega
        have i0 : (0 : Int) ≤ (i : Int) := by omega
        generalize (layRow zeroLay).toArray = ZA at *
        clear hi hlt hok hrg hxi hW hll
        go_upto_region 10 with (first
          | (with_reducible refine wpList_load_mid (op := ⟨some 18, _, _, _, _, _⟩) rfl 32 _ rfl b (off + i * 37) rfl (layRow q0) _ HRG.out Try.underlying32 rfl SWC.out ?_)
          | (with_reducible refine wpList_store_row (o := ⟨none, .store _ (.tmp 6) _, _, _, _, _⟩) rfl 32 _ _ rfl wr.heap.size (layRow q0).toArray rfl rfl 32 ZA (heap_alloc_new wr _) SWR.out EW.out WO.out ?_))
        clear hix hz hzl
        generalize hW7 : World.setRow _ wr.heap.size _ = W7
        have h7 : W7.heap[wr.heap.size]? = some (.cells (layRow q0).toArray 32 (0, 0)) ∧ Below wr.heap.size wr W7 := by
          obtain ⟨e1, e2, e3⟩ := ygen_row (w := wr) (old := ZA) (cs := (layRow q0).toArray) (T := 32)
          rw [← hW7]
          exact ⟨e1, e3⟩
        have H7 := Lib.hid h7.1
        have HWW7 := Lib.hid (HW.out.below h7.2)
        have HOK7 := Lib.hid (HOK.out.below h7.2)
        have HBT := Lib.hid HW.out.bel.size
        clear hW7 h7 HRG SWC EW WO HW HOK
        generalize wr.heap.size = T at *
        have HRL := Lib.hid (rlay_any W7 w.heap.size (.slice a n c) l q0 HWW7.out.own HWW7.out.wo.byt HOK7.out (by have := HLL.out; have := HQB.out; have := HI100.out; omega) HWW7.out.bel.size)
        unfold RLay at HRL
        generalize hRW : (layRow q0).toArray = RW at *
        go_wp2_with (first
          | (with_reducible refine wpList_load_row (o := ⟨some 21, _, _, _, _, _⟩) rfl 32 _ rfl T rfl 32 RW (0, 0) _ H7.out Try.underlying32 rfl SWR.out ?_))
        refine HRL.out.mono ?_
        rintro e w8 ⟨a8, n8, c8, rfl, hs8⟩
        have h8T : w8.heap[T]? = some (.cells RW 32 (0, 0)) := (hs8.touch.block T (Array.getElem?_eq_some_iff.1 H7.out).1 (fun hm => own_ne HWW7.out.own H7.out (by decide) (Option.mem_toList.1 hm))).trans H7.out
        have H8 := Lib.hid h8T
        have hW8 := ww_row HWW7.out hs8
        have HLM := Lib.hid (layM_len l.length q0 w HOK0.out HQB.out)
        have HLY := Lib.hid (lay7_step w8 P w.heap.size v1 l q0 hW8.wo hW8.bel.size (HOK0.out.below hW8.bel) (by have := HLL.out; have := HQB.out; have := HI100.out; omega))
        rw [hRW] at HLY
        have HW8 := Lib.hid hW8
        generalize layM l.length q0 = M at *
        obtain ⟨mx, me⟩ := M
        clear hs8 h8T hW8 HWW7 HRL HOK7 H7
        go_wp2_with (first
          | (with_reducible refine wpList_load_row (o := ⟨some 26, _, _, _, _, _⟩) rfl 32 _ rfl T rfl 32 RW (0, 0) _ H8.out Try.underlying32 rfl SWR.out ?_))
        refine HLY.out.mono ?_
        rintro e w9 ⟨rfl, hs9⟩
        obtain ⟨v9, hW9⟩ := ww_wr HW8.out hs9
        have hlb : (l ++ mx).length ≤ (i + 1) * 66000 := by have h1 := HLM.out; have h2 := HLL.out; rw [List.length_append]; omega
        generalize hL : l ++ mx = L at *
        have HLB := Lib.hid hlb
        have HBY := Lib.hid (wbytes_any P _ v9 L w9 hW9.wo (by have := HI100.out; omega))
        have HW9 := Lib.hid hW9
        clear hs9 hW9 HW8 HLY H8 hL hlb
        go_wp2_with fail
        refine HBY.out.mono ?_
        rintro e w10 ⟨v10, rfl, ho10, hb10⟩
        have hW10 := HW9.out.below hb10
        obtain ⟨a10, c10, rfl, _, hbs10⟩ := own_bs ho10 rfl hW10.wo.byt
        have hbs4 := BS.of_own hW10.own rfl hW10.wo.byt
        have HSM := Lib.hid (same_eq w10 _ _ L hbs10 hbs4)
        have HW10 := Lib.hid hW10
        clear ho10 hb10 hW10 hbs10 hbs4 HW9 HBY
        go_wp2_with fail
        refine HSM.out.mono ?_
        rintro e w11 ⟨rfl, rfl⟩
        go_wp2_with fail
        go_roundw
        case rel => exact ⟨i + 1, L, _, _, _, _, by have := HLT.out; omega, by go_num, rfl, HLB.out, HW10.out⟩
        case measure => simp [intOf]; have := HLT.out; omega
      · obtain rfl : i = len0 := by omega
        clear hi hlt hW hll
        go_wp2_with fail
        go_ret
        exact ⟨rfl, HB.out⟩
set_option maxRecDepth 100000 in
theorem lifted (os : Os) (started : os.Started) (H : Type) (enc : TypeId × Value → H) :
    ReturnsInHanded {} Try.checked os 3 .any (Rows.codecLaysSpec.pre6 enc Try.prog Try.f3 Rows.codecLaysRow.domain false) (Rows.codecLaysSpec.post enc Try.prog Try.f3 false true false false) := by
  refine returnsInHanded_of_change_sized (C := Try.checked) own started (by kernel_rfl) Try.func3
    (ChangeSpec.witness6 (enc := enc) (C := Try.checked) false ⟨#[], #[.slice none 0 0], []⟩ 8 (by kernel_rfl) (by kernel_rfl) (by kernel_rfl) (by kernel_rfl)) ?_
  intro W base args ds gs before hval0 hW hcnd hsz0 _
  have hsz : (DataW.weightsEach Try.prog (Try.f3.params.toList ++ Rows.codecLaysSpec.plain.varTypes Try.prog) (ds ++ gs)).all (· ≤ reachBytes) = true := hsz0
  clear hsz0
  have hval : ∀ (j : Nat) t v, Try.f3.params[j]? = some t → args[j]? = some v → Value.okWide Try.prog W .any base t v := hval0
  have hW' := hW
  obtain ⟨p, q, hA0, hV, rfl, hfz, hnd⟩ := hW
  have hA : DataW.TrodAll enc Try.prog W 0 (fun _ => true) true Try.f3.params.toList args.toList ds p := hA0
  rw [Try.params3] at hA hval hsz
  obtain ⟨v0, vs0, d0, ds0, p0, q0, hargs, rfl, rfl, h0, r0⟩ := trodAll_cons hA
  obtain ⟨rfl, rfl, rfl⟩ := trodAll_nil r0
  obtain rfl : args = #[v0] := by cases args; simp_all
  obtain ⟨rfl, rfl⟩ := trodVars_none hV
  have k0 := h0
  have lt0 : ∀ x ∈ p0, x.block < W.heap.size := by obtain ⟨m, hm⟩ := k0; exact DataW.trod_lt m _ _ _ hm
  obtain ⟨x0, a0, len0, cap0, rfl, sl0⟩ := par_slice (j := 0) Try.underlying22 opn_lays (hval 0 22 v0 rfl rfl) h0 hsz rfl rfl
  clear hA0 hval0
  simp only [List.append_nil] at hW'
  refine (walk W a0 len0 cap0 x0 sl0).mono fun e W' ⟨he, bel⟩ => ?_
  subst he
  exact ⟨_, rfl, _, _, _, [], _, [], hW', trodAll_mk1 (shut_bool Try.underlying4 _), (trodAll_cons_mk (Below.trod laidOut (by kernel_rfl) (of_decide_eq_true (by kernel_rfl)) k0 bel lt0) trodAll_mk0), rfl, bel.frame _, fun h => by cases h⟩

theorem over : Rows.codecLaysRow.holds Try.pinned (OpenSpec.ofChange Rows.codecLaysSpec) :=
  OpenClaim.holds_of_wide 3 Try.f3 rfl rfl rfl rfl rfl rfl rfl ⟨rfl, rfl, rfl, rfl, rfl⟩ rfl rfl rfl rfl rfl (by kernel_rfl) Try.func3 (by kernel_rfl)
    (of_decide_eq_true (by kernel_rfl)) (by unfold Func.isWrapper; first | (rw [if_pos (by decide +kernel)]; kernel_rfl) | (rw [if_neg (by decide +kernel)]; exact ⟨rfl, rfl⟩))
    (fun os started H enc _ => lifted os started H enc)

/-- The statement. -/
theorem proved : Rows.CodecLaysSaid := over
#print axioms proved
end Go.Proofs.Ytclahpmghifehaa.codecLays
