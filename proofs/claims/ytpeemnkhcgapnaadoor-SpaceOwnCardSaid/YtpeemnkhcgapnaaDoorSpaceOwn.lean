/-
  'SpaceOwn' returns true at every input, and each argument reads behind the call as it read before. Conditions: the package-level variable that the row lists starts as the program's text lays it (the card ties that).
-/
import Derived.Test.YtpeemnkhcgapnaaDoorVf
import Derived.Test.YtpeemnkhcgapnaaDoorCards
import Derived.Test.YtpeemnkhcgapnaaDoorTie
import Derived.Test.YtpeemnkhcgapnaaDoorVi
namespace Go.Proofs.YtpeemnkhcgapnaaDoor.spaceOwn
open Go.ChangeShapes Go.WideShapes Go.ChangeAt Go.RowKit
set_option linter.unusedVariables false


set_option maxRecDepth 100000 in
set_option maxHeartbeats 1600000 in
theorem walk (w : World) (l0 : List Nat) (a0 : Option Addr) (len0 cap0 : Nat) (us0 : US w a0 len0 cap0 l0) (cp0 : len0 ≤ cap0) (bg0 : len0 ≤ 140737488351232) (hK : TZ w) :
    Calls Tryd.prog 8 #[.slice a0 len0 cap0] w fun e w' => e = .returned (.bool true) ∧ Below w.heap.size w w' := by
  have HA := Lib.hid (alive11_any w hK)
  have HU := Lib.hid us0
  have lI : (len0 : Int) ≤ 140737488351232 := by omega
  have HT := Lib.hid hK
  by_cases hbig : 300 < len0
  · have hbI : (300 : Int) < (len0 : Int) := by omega
    clear hbig us0 cp0 bg0 hK
    go_enter Tryd.func8, Tryd.ntmps8
    go_wp2_with fail
    refine HA.out.mono ?_
    rintro e w1 ⟨rfl, hb1⟩
    have HN := Lib.hid (so_new w w1 64 HT.out hb1 (by decide) (by decide))
    clear hb1 HA
    go_wp2_with fail
    refine HN.out.mono ?_
    rintro e w2 ⟨rfl, hs2, _⟩
    generalize w1.heap.size = S at *
    have HS2 := Lib.hid hs2
    have HN2 := Lib.hid (so_new w w2 64 HT.out hs2.bel (by decide) (by decide))
    clear hs2 HN
    go_wp2_with fail
    refine HN2.out.mono ?_
    rintro e w3 ⟨rfl, ho3, hb3⟩
    have HSO := Lib.hid (show S < w2.heap.size from HS2.out.lt)
    have HS3 := Lib.hid (HS2.out.below hb3)
    have HO3 := Lib.hid ho3
    clear ho3 hb3 HN2 HS2
    generalize w2.heap.size = O at *
    go_wp2_with fail
    go_ret
    exact ⟨rfl, HS3.out.bel⟩
  have hsm : (len0 : Int) ≤ 300 := by omega
  have hsn : len0 ≤ 300 := by omega
  have hmk := make_u32 len0 (by omega)
  rw [made_u32] at hmk
  have HNS := Lib.hid hsn
  obtain ⟨wl, hwl⟩ : ∃ wl, l0.map (fun x => 2 + x % 62) = wl := ⟨_, rfl⟩
  have HWL := Lib.hid (show wl.length = len0 by rw [← hwl, List.length_map]; exact us0.len)
  have HWA := Lib.hid (fun i (hi : i < len0) => show wl.getD i 0 = 2 + l0.getD i 0 % 62 by
    have := us0.len
    rw [← hwl]
    simp [List.getD, show i < l0.length by omega])
  have HWI := Lib.hid (show allIn 64 wl by
    intro y hy
    rw [← hwl] at hy
    obtain ⟨x, _, rfl⟩ := List.mem_map.1 hy
    omega)
  have HWS := Lib.hid (show ∀ x ∈ wl, x < 4294967296 from fun x hx => by have := HWI.out x hx; omega)
  clear hbig us0 cp0 bg0 hK hwl hsn
  go_enter Tryd.func8, Tryd.ntmps8
  go_wp2_with fail
  refine HA.out.mono ?_
  rintro e w1 ⟨rfl, hb1⟩
  have HN := Lib.hid (so_new w w1 64 HT.out hb1 (by decide) (by decide))
  clear hb1 HA
  go_wp2_with fail
  refine HN.out.mono ?_
  rintro e w2 ⟨rfl, hs2, _⟩
  generalize w1.heap.size = S at *
  have HS2 := Lib.hid hs2
  have HN2 := Lib.hid (so_new w w2 64 HT.out hs2.bel (by decide) (by decide))
  clear hs2 HN
  go_wp2_with fail
  refine HN2.out.mono ?_
  rintro e w3 ⟨rfl, ho3, hb3⟩
  have HSO := Lib.hid (show S < w2.heap.size from HS2.out.lt)
  have HS3 := Lib.hid (HS2.out.below hb3)
  have HO3 := Lib.hid ho3
  clear ho3 hb3 HN2 HS2
  generalize w2.heap.size = O at *
  go_wp2_with fail
  have HIN := Lib.hid (show ArrU (w3.alloc (.cells (u32n (List.replicate len0 0)).toArray 31)) w3.heap.size (fillU wl 0) by
    rw [fillU_zero, HWL.out]; exact heap_alloc_new w3 _)
  have hba := (Below.refl w3.heap.size w3).alloc (Nat.le_refl _) (.cells (u32n (List.replicate len0 0)).toArray 31)
  have HS4 := Lib.hid (HS3.out.below hba)
  have HO4 := Lib.hid (HO3.out.below hba)
  have HOI := Lib.hid (show O < w3.heap.size from HO3.out.lt)
  clear hba hmk HS3 HO3
  try simp only [drew_eq_alloc7]
  generalize World.alloc w3 _ = w4 at *
  generalize w3.heap.size = I at *
  have HIG := Lib.hid (show w.heap.size ≤ I by have := HO4.out.new; have := HOI.out; omega)
  go_loopw [8, 9, 45] (fun _ _ v45 wr => ∃ i : Nat, i ≤ len0 ∧ v45 = .int .i64 (i : Int) ∧ ArrU wr I (fillU wl i) ∧ SO w wr S 64 (allF 64) ∧ SO w wr O 64 (allF 64)) (fun _ _ v _ => len0 - (intOf v).toNat)
  case atStart => exact ⟨0, by omega, rfl, HIN.out, HS4.out, HO4.out⟩
  case round =>
    clear HIN HS4 HO4
    obtain ⟨i, hi, rfl, hA, hs, ho⟩ := hrel
    by_cases hlt : i < len0
    · obtain ⟨b, off, rfl, hx⟩ := (HU.out.below hs.bel).at hlt
      have hix := index_u32 b off len0 cap0 i hlt
      have hiz := index_u32z I len0 len0 i hlt
      have iI : (i : Int) < (len0 : Int) := by omega
      have i0 : (0 : Int) ≤ (i : Int) := by omega
      have hlf : i < (fillU wl i).length := by rw [fillU_len wl i (by rw [HWL.out]; exact hi), HWL.out]; exact hlt
      have cI := hA.cell hlf
      have fI := hA.free i
      have HST := Lib.hid (fillU_set wl i (by rw [HWL.out]; exact hlt))
      have HWX := Lib.hid (HWA.out i hlt)
      generalize (fillU wl i).getD i 0 = old at *
      have HAA := Lib.hid hA
      have HSS := Lib.hid hs
      have HOO := Lib.hid ho
      have HLT := Lib.hid hlt
      generalize l0.getD i 0 = x at *
      have hxw : IntKind.u32.wrap (2 + (x : Int) % 62) = 2 + (x : Int) % 62 := IntWalk.u32_in _ (by omega)
      clear hi hlt hA hs ho hlf
      go_wp2_with fail
      go_roundw
      case rel =>
        have e : (2 + (x : Int) % 62) = ((2 + x % 62 : Nat) : Int) := by omega
        refine ⟨i + 1, by have := HLT.out; omega, by go_num, ?_, HSS.out.touch (touch_set _ I i _) (by have := HOI.out; have := HSO.out; simp; omega) (by simp; exact HIG.out), HOO.out.touch (touch_set _ I i _) (by have := HOI.out; simp; omega) (by simp; exact HIG.out)⟩
        rw [← HST.out, HWX.out, e]
        exact HAA.out.set i _
      case measure => simp [intOf]; have := HLT.out; omega
    · obtain rfl : i = len0 := by omega
      rw [show fillU wl i = wl from by rw [← HWL.out]; exact fillU_full wl] at hA
      have HAA := Lib.hid hA
      have HSS := Lib.hid hs
      have HOO := Lib.hid ho
      have nI : (i : Int) ≤ 300 := hsm
      clear hA hs ho hi hlt HU HWA
      have hWl := (Below.refl wr.heap.size wr).alloc (Nat.le_refl _) (.cells #[] 31)
      obtain ⟨v8, w8, r1, o1, g1, _⟩ := run_append_US (wr.alloc (.cells #[] 31)) wr.heap.size 0 i i _ (some ⟨I, 0, none⟩) [] wl (own_lit0 wr wr.heap.size (Nat.le_refl _)) ((HAA.out.us HWL.out HWS.out).below hWl) (fun h => by cases h) (by have := HNS.out; omega) (by simp)
      rw [Nat.zero_add] at o1
      obtain ⟨y8, k8, hv8, _⟩ := own_sl o1
      subst hv8
      have hb8 := hWl.grown g1 (by simp) (fun k hk => by simp [Value.ownBlock] at hk; omega)
      have HTU := Lib.hid (show TU w8 wr.heap.size y8 i k8 wl from tu_own (by unfold OU; rw [HWL.out]; rw [List.nil_append] at o1; exact o1) HWS.out HWL.out.symm)
      have HR1 := Lib.hid r1
      have HS8 := Lib.hid (HSS.out.below hb8)
      have HO8 := Lib.hid (HOO.out.below hb8)
      have HA8 := Lib.hid (HAA.out.below hb8)
      have hset := so_set w w8 S 64 i i (some ⟨I, 0, none⟩) _ wl HS8.out (HA8.out.us HWL.out HWS.out) (by have := HNS.out; omega) true (by simp; exact HWI.out)
      rw [show setA 64 (allF 64) wl true = (0, minF 64 wl) from rfl] at hset
      have HSET := Lib.hid hset
      have HIB := Lib.hid (show I < wr.heap.size from HAA.out.lt)
      clear r1 o1 g1 hWl hb8 hset HSS HOO HAA
      go_wp2_with (first
        | (at_builtin; refine wpList_append_run (o := ⟨some 59, _, _, _, _, _⟩) rfl _ _ 32 32 rfl _ _ _ _ rfl rfl HR1.out ?_))
      clear HR1
      generalize wr.heap.size = Q at *
      refine HSET.out.mono ?_
      rintro e w9 ⟨rfl, hs9, ht9⟩
      have HS9 := Lib.hid hs9
      have HO9 := Lib.hid (HO8.out.touch ht9 (by have := HSO.out; simp; omega) (by have := HS8.out.new; simp; omega))
      have HA9 := Lib.hid ((HA8.out.touch ht9 (by have := HSO.out; have := HOI.out; simp; omega)).ru HWL.out HWS.out)
      have HT9 := Lib.hid (HTU.out.touch ht9 (by have := HSO.out; have := HOI.out; have := HIB.out; simp; omega))
      clear HSET hs9 ht9 HO8 HA8 HTU HS8
      go_wp2_with fail
      go_loopw [11, 66] (fun _ v66 wr => ∃ j : Nat, j ≤ i ∧ v66 = .int .i64 (j : Int) ∧ RU wr I i ∧ SO w wr S 64 (minF 64 wl) ∧ SO w wr O 64 (allF 64) ∧ TU wr Q y8 i k8 wl) (fun _ v _ => i - (intOf v).toNat)
      case atStart => exact ⟨0, by omega, rfl, HA9.out, HS9.out, HO9.out, HT9.out⟩
      case round =>
        clear HA9 HS9 HO9 HT9
        obtain ⟨j, hj, rfl, hA, hs, ho, ht⟩ := hrel
        by_cases hjl : j < i
        · have hiz := index_u32z I i i j hjl
          have jI : (j : Int) < (i : Int) := by omega
          have j0 : (0 : Int) ≤ (j : Int) := by omega
          obtain ⟨old, _, cI⟩ := hA.cell hjl
          have fI := hA.free j
          have HAA := Lib.hid hA
          have HSS := Lib.hid hs
          have HOO := Lib.hid ho
          have HTT := Lib.hid ht
          have HLT := Lib.hid hjl
          clear hA hs ho ht hj hjl
          go_wp2_with fail
          go_roundw
          case rel => exact ⟨j + 1, by have := HLT.out; omega, by go_num, HAA.out.set j 0 (by decide), HSS.out.touch (touch_set _ I j _) (by have := HOI.out; have := HSO.out; simp; omega) (by simp; exact HIG.out), HOO.out.touch (touch_set _ I j _) (by have := HOI.out; simp; omega) (by simp; exact HIG.out), HTT.out.touch (touch_set _ I j _) (by have := HIB.out; simp; omega)⟩
          case measure => simp [intOf]; have := HLT.out; omega
        · obtain rfl : j = i := by omega
          obtain ⟨k, hk⟩ : ∃ k, (tkn (minF 64 wl) 64).length = k := ⟨_, rfl⟩
          have hkn := tkn_len (minF 64 wl) 64
          have hta := so_taken w wr S 64 _ hs
          have hmm := fun x => tkn_mem (minF 64 wl) x 64
          generalize hG : tkn (minF 64 wl) 64 = G at *
          rw [hk] at hta hkn
          have HTA := Lib.hid hta
          have HGK := Lib.hid (And.intro hk (fun x hx => ((hmm x).1 hx).1))
          have HSS := Lib.hid hs
          have HOO := Lib.hid ho
          have HTT := Lib.hid ht
          have kI : (k : Int) ≤ 64 := by omega
          clear hA hs ho ht hj hjl hta hmm hG hk hkn
          go_wp2_with fail
          refine HTA.out.mono ?_
          rintro e w10 ⟨a10, c10, rfl, hou, _, hb10⟩
          obtain ⟨g, hgB, hgr⟩ := ou_ru hou HGK.out.1 (fun x hx => by have := HGK.out.2 x hx; omega) hb10.size
          have HGB := Lib.hid hgB
          have HGR := Lib.hid hgr
          have HB10 := Lib.hid hb10
          clear hou hgB hgr hb10 HTA
          go_wp2_with fail
          go_loopw [13, 77] (fun _ v77 wq => ∃ t : Nat, t ≤ k ∧ v77 = .int .i64 (t : Int) ∧ (k = 0 ∨ (a10 = some ⟨g, 0, none⟩ ∧ RU wq g k)) ∧ Below wr.heap.size wr wq) (fun _ v _ => k - (intOf v).toNat)
          case atStart => exact ⟨0, by omega, rfl, HGR.out, HB10.out⟩
          case round =>
            clear HGR HB10
            obtain ⟨t, ht, rfl, hgr, hbq⟩ := hrel
            by_cases htl : t < k
            · obtain ⟨rfl, hru⟩ := hgr.resolve_left (by omega)
              have hiz := index_u32z g k c10 t htl
              have tI : (t : Int) < (k : Int) := by omega
              have t0 : (0 : Int) ≤ (t : Int) := by omega
              obtain ⟨x, hx, cI⟩ := hru.cell htl
              have fI := hru.free t
              have HRU := Lib.hid hru
              have HBQ := Lib.hid hbq
              have HLT := Lib.hid htl
              obtain ⟨y, hy⟩ : ∃ y, (x + 1) % 4294967296 = y := ⟨_, rfl⟩
              have HY := Lib.hid (show y < 4294967296 by omega)
              have hyw : IntKind.u32.wrap ((x : Int) + 1) = (y : Int) := by rw [IntKind.wrap_u32]; omega
              have hym : ((x : Int) + 1) % 4294967296 = (y : Int) := by omega
              clear hru hbq hgr ht htl hx hy
              go_wp2_with fail
              go_roundw
              case rel => exact ⟨t + 1, by have := HLT.out; omega, by go_num, .inr ⟨trivial, HRU.out.set t y HY.out⟩, HBQ.out.setCell (p := ⟨g, t, none⟩) HGB.out _⟩
              case measure => simp [intOf]; have := HLT.out; omega
            · obtain rfl : t = k := by omega
              have HS11 := Lib.hid (HSS.out.below hbq)
              have HO11 := Lib.hid (HOO.out.below hbq)
              have HT11 := Lib.hid (HTT.out.below hbq)
              clear hgr hbq ht htl HSS HOO HTT
              go_wp2_with fail
              go_loopw [15, 89] (fun _ v89 wq => ∃ t : Nat, t ≤ j ∧ v89 = .int .i64 (t : Int) ∧ SO w wq S 64 (minF 64 wl) ∧ SO w wq O 64 (allF 64) ∧ TU wq Q y8 j k8 wl) (fun _ v _ => j - (intOf v).toNat)
              case atStart => exact ⟨0, by omega, rfl, HS11.out, HO11.out, HT11.out⟩
              case round =>
                clear HS11 HO11 HT11
                obtain ⟨t, ht, rfl, hs, ho, hw⟩ := hrel
                by_cases htl : t < j
                · obtain ⟨b2, o2, rfl, hx⟩ := hw.us.at htl
                  have hix := index_u32 b2 o2 j k8 t htl
                  have tI : (t : Int) < (j : Int) := by omega
                  have t0 : (0 : Int) ≤ (t : Int) := by omega
                  have hmem : wl.getD t 0 ∈ wl := by
                    have e : wl.getD t 0 = wl[t]'(by rw [HWL.out]; exact htl) := by simp [List.getD, show t < wl.length by rw [HWL.out]; exact htl]
                    rw [e]; exact List.getElem_mem _
                  have hin := HWI.out _ hmem
                  have hh := so_has w _ S 64 (wl.getD t 0) _ hs
                  rw [has_in hin.1 hin.2, show minF 64 wl (wl.getD t 0) = false by unfold minF; rw [decide_eq_true hmem]; simp] at hh
                  generalize wl.getD t 0 = x at *
                  have HH := Lib.hid hh
                  have HOO := Lib.hid ho
                  have HWW := Lib.hid hw
                  have HLT := Lib.hid htl
                  clear hs ho hw ht htl hmem hin hh
                  go_wp2_with fail
                  refine HH.out.mono ?_
                  rintro e w12 ⟨rfl, hs12, hb12⟩
                  have HQ := Lib.hid (And.intro hs12 (And.intro (HOO.out.below hb12) (HWW.out.below hb12)))
                  clear HH hs12 hb12 hx hix
                  go_wp2_with fail
                  go_roundw
                  case rel => exact ⟨t + 1, by have := HLT.out; omega, by go_num, HQ.out.1, HQ.out.2.1, HQ.out.2.2⟩
                  case measure => simp [intOf]; have := HLT.out; omega
                · obtain rfl : t = j := by omega
                  have HTA := Lib.hid (so_takenU w _ O 64 0 _ ho (by decide))
                  clear hs ho hw ht htl
                  go_wp2_with fail
                  refine HTA.out.mono ?_
                  rintro e w13 ⟨a13, c13, rfl, _, ho13, _⟩
                  have HO13 := Lib.hid ho13
                  have HL := Lib.hid (so_left w w13 O 64 _ ho13)
                  rw [show cnt (allF 64) 64 = 62 by decide] at HL
                  clear HTA ho13
                  go_wp2_with fail
                  refine HL.out.mono ?_
                  rintro e w14 ⟨rfl, rfl⟩
                  clear HL
                  go_wp2_with fail
                  go_ret
                  exact ⟨rfl, HO13.out.bel⟩
set_option maxRecDepth 100000 in
theorem lifted (os : Os) (started : os.Started) (H : Type) (enc : TypeId × Value → H) :
    ReturnsInHanded {} Tryd.checked os 8 .any (fun w args => (Rows.spaceOwnSpec.pre enc Tryd.prog Tryd.f8 [] false w args ∧ laidMetH Tryd.prog [("math/bits.deBruijn64tab", Rows.laid_math_bits_deBruijn64tab)] w) ∧ sizedMet enc Tryd.prog Tryd.f8 (OpenSpec.ofChange Rows.spaceOwnSpec) false w args)
      (Rows.spaceOwnSpec.post enc Tryd.prog Tryd.f8 false true false false) := by
  refine returnsInHanded_of_change_and (C := Tryd.checked) (X := fun w _ => laidMetH Tryd.prog [("math/bits.deBruijn64tab", Rows.laid_math_bits_deBruijn64tab)] w) (fun _ _ _ hh h => h.of_heap hh) own11 started (by kernel_rfl) Tryd.func8
    (ChangeSpec.witness_shaped (enc := enc) (C := Tryd.checked) (os := os) (X := fun w _ => laidMetH Tryd.prog [("math/bits.deBruijn64tab", Rows.laid_math_bits_deBruijn64tab)] w) false (World.doorLaid Tryd.prog 400 os) #[.slice none 0 0] 8 rfl (World.shaped_of_RefB (by kernel_rfl) (by kernel_rfl)) (by kernel_rfl) (by kernel_rfl) (by kernel_rfl) (door_met11 os _)) ?_
  intro W base args ds gs before hval0 hW _ hsz0 hL _
  have hval : ∀ (j : Nat) t v, Tryd.f8.params[j]? = some t → args[j]? = some v → Value.okWide Tryd.prog W .any base t v := hval0
  have hsz : (DataW.weightsEach Tryd.prog (Tryd.f8.params.toList ++ Rows.spaceOwnSpec.plain.varTypes Tryd.prog) (ds ++ gs)).all (· ≤ reachBytes) = true := hsz0
  clear hsz0
  have hW' := hW
  obtain ⟨p, q, hA0, hV, rfl, hfz, hnd⟩ := hW
  have hA : DataW.TrodAll enc Tryd.prog W 0 (fun _ => true) true Tryd.f8.params.toList args.toList ds p := hA0
  rw [Tryd.params8] at hA hval hsz
  obtain ⟨v0, vs0, d0, ds0, p0, q0, hargs, rfl, rfl, h0, r0⟩ := trodAll_cons hA
  obtain ⟨rfl, rfl, rfl⟩ := trodAll_nil r0
  obtain rfl : args = #[v0] := by cases args; simp_all
  obtain ⟨rfl, rfl⟩ := trodVars_none hV
  have k0 := h0
  have lt0 : ∀ x ∈ p0, x.block < W.heap.size := by obtain ⟨m, hm⟩ := k0; exact DataW.trod_lt m _ _ _ hm
  obtain ⟨l0, a0, len0, cap0, rfl, us0, cp0, bg0⟩ := par_u32s (j := 0) (hval 0 32 v0 rfl rfl) h0 hsz rfl rfl
  have hK := of_laid11 hL
  clear hA0 hval0
  refine (walk W l0 a0 len0 cap0 us0 cp0 bg0 hK).mono fun e W' ⟨he, bel⟩ => ?_
  subst he
  exact ⟨_, rfl, _, _, _, [], _, [], hW', trodAll_mk1 (shut_bool Tryd.underlying4 _), (trodAll_cons_mk (Below.trod laidOut11 (by kernel_rfl) (of_decide_eq_true (by kernel_rfl)) k0 bel lt0) trodAll_mk0), rfl, bel.frame _, fun h => by cases h⟩

theorem over : Rows.SpaceOwnSaid :=
  OpenClaim.holds_of_wide 8 Tryd.f8 rfl rfl rfl rfl rfl rfl rfl ⟨rfl, rfl, rfl, rfl, rfl⟩ rfl rfl rfl rfl rfl (by kernel_rfl) Tryd.func8 (by kernel_rfl)
    (of_decide_eq_true (by kernel_rfl)) (by unfold Func.isWrapper; first | (rw [if_pos (by decide +kernel)]; kernel_rfl) | (rw [if_neg (by decide +kernel)]; exact ⟨rfl, rfl⟩))
    (fun os started H enc _ => lifted os started H enc)

/-- The statement. -/
theorem proved : Rows.SpaceOwnCardSaid :=
  Claim7.holds_tied_plain_at .later [] [.data] true (true, "3aca2102f0461fcd0b44e8c06fdc99553a88198ed7149c61c15f7a0c181ac545") false
    over (fun _ h => by cases h) (by kernel_rfl) (fun _ h => by cases h) spaceOwn_row_tie rfl ⟨rfl, rfl⟩ (by kernel_rfl) rfl
    (fun f fn hf hfn => by
      obtain rfl : f = 8 := Option.some.inj ((show Tryd.prog.funcNamed "banyan/banyanlaw11.SpaceOwn" = some 8 by kernel_rfl).symm.trans hf) |>.symm
      obtain rfl : fn = Tryd.f8 := (Option.some.inj (Tryd.func8.symm.trans hfn)).symm
      exact ⟨by kernel_rfl, fun j t ht => by
        rw [Tryd.params8] at ht
        have hm : t ∈ [32] := by simpa using Array.mem_of_getElem? ht
        have hall : ([32].all fun u => !Tryd.prog.wantsStandIn u) = true := by kernel_rfl
        exact (show Tryd.prog.wantsStandIn t = false by simpa using List.all_eq_true.1 hall t hm)⟩)
    (by kernel_rfl)
#print axioms proved
end Go.Proofs.YtpeemnkhcgapnaaDoor.spaceOwn
