/-
  'ShaHex' returns true at every input, and each argument reads behind the call as it read before. Conditions: the package-level variable that the row lists starts as the program's text lays it (the card ties that).
-/
import Derived.Test.YtinkjoghdajhkaaDoorLaid
import Derived.Test.YtinkjoghdajhkaaDoorCards
import Derived.Test.YtinkjoghdajhkaaDoorTie
import Derived.Stop.BytesEq
import Derived.Deep.DeepCutAuto
import Derived.Laws.IdiomStrings
namespace Go.Proofs.YtinkjoghdajhkaaDoor.shaHex
open Go.ChangeShapes Go.WideShapes Go.ChangeAt Go.RowKit
set_option linter.unusedVariables false

theorem cells_of (l : List Int) (h : Byt l) : u8s l = ((l.map fun n => UInt8.ofNat n.toNat).map Extern.Stop.cell).toArray := by
  unfold u8s
  rw [List.map_map]
  congr 1
  apply List.map_congr_left
  intro z hz
  have := h z hz
  simp only [Function.comp, Extern.Stop.cell]
  congr 1
  simp
  omega
theorem bytes_inj : ∀ (l m : List Int), Byt l → Byt m → ((l.map fun n => UInt8.ofNat n.toNat) == (m.map fun n => UInt8.ofNat n.toNat)) = decide (l = m) := by
  intro l m hl hm
  have h := strOfNums_inj l m hl hm
  rw [ByteArray.toList_eq, ByteArray.toList_eq] at h
  exact h
theorem eq_hash (x y : List Int) (hx : x.length = 32) (hy : Byt x) (hx' : y.length = 32) (hy' : Byt y) (w : World) : (Op.equalIn 10000 24 (.agg (u8s x)) (.agg (u8s y))).run Tryd.prog w = .ok (decide (x = y)) w := by
  obtain ⟨i0, hi, hs⟩ := Option.map_eq_some_iff.1 one_u8
  rw [cells_of x hy, cells_of y hy', run_equalIn_bytes w 9998 24 5 32 Tryd.underlying24 Tryd.underlying5 (fun w => by simp [sizeOf, typeInfo, hi, hs]) _ _ (by simpa using hx) (by simpa using hx'), bytes_inj x y hy hy']
theorem digI_inj (a b : Int) (a0 : 0 ≤ a) (a1 : a < 16) (b0 : 0 ≤ b) (b1 : b < 16) (h : digI a = digI b) : a = b := by
  unfold digI at h
  split at h <;> split at h <;> omega
theorem hexI_inj (x y : List Int) (hx : x.length = 32) (hy : Byt x) (hx' : y.length = 32) (hy' : Byt y) (h : hexI x = hexI y) : x = y := by
  apply List.ext_getElem (by omega)
  intro i h1 h2
  have e1 := congrArg (fun l => l[2 * i]?) h
  have e2 := congrArg (fun l => l[2 * i + 1]?) h
  simp only [hexI, List.getElem?_map, List.getElem?_range (show 2 * i < 64 by omega), List.getElem?_range (show 2 * i + 1 < 64 by omega), Option.map_some, Option.some.injEq] at e1 e2
  unfold hexAt at e1 e2
  rw [if_pos (by omega), if_pos (by omega), show 2 * i / 2 = i by omega] at e1
  rw [if_neg (by omega), if_neg (by omega), show (2 * i + 1) / 2 = i by omega] at e2
  have gx : x.getD i 0 = x[i] := by simp [h1]
  have gy : y.getD i 0 = y[i] := by simp [h2]
  rw [gx, gy] at e1 e2
  obtain ⟨a0, a1⟩ := hy x[i] (List.getElem_mem h1)
  obtain ⟨b0, b1⟩ := hy' y[i] (List.getElem_mem h2)
  have := digI_inj _ _ (by omega) (by omega) (by omega) (by omega) e1
  have := digI_inj _ _ (by omega) (by omega) (by omega) (by omega) e2
  omega
theorem hexAt_digit (x : List Int) (hx : Byt x) (j : Nat) : (48 ≤ hexAt x j ∧ hexAt x j ≤ 57) ∨ (97 ≤ hexAt x j ∧ hexAt x j ≤ 102) := by
  obtain ⟨h0, h1⟩ := byt_at x hx (j / 2)
  rw [← List.getD_eq_getElem?_getD] at h0 h1
  unfold hexAt digI
  split <;> split <;> omega
theorem conv_str (l : List Int) (hl : Byt l) (w : World) : ∃ cap W, (convert 9 22 (.string (strOfNums l))).run Tryd.prog w = .ok (.slice (some ⟨w.heap.size, 0, none⟩) l.length cap) W ∧
    BS W (.slice (some ⟨w.heap.size, 0, none⟩) l.length cap) l ∧ Below w.heap.size w W := by
  have hs : (strOfNums l).size = l.length := by
    show (strOfNums l).data.size = l.length
    simp [strOfNums]
  have h := run_bytes_of_string (P := Tryd.prog) w 9 22 5 (strOfNums l) Tryd.underlying9 Tryd.underlying22 Tryd.underlying5
  rw [hs] at h
  refine ⟨_, _, h, ⟨_, _, rfl, hl, nofun, .inr ⟨_, 0, rfl, fun i hi => ?_⟩⟩, (Below.refl w.heap.size w).drew.alloc (Nat.le_refl _) _⟩
  rw [Nat.zero_add]
  have e := heap_alloc_new w.drew (.cells (bytesRow (strOfNums l) (grownCap w l.length 0 5)) 5 ((bytesRow (strOfNums l) (grownCap w l.length 0 5)).size, (bytesRow (strOfNums l) (grownCap w l.length 0 5)).size + 1))
  refine (cell_of_row _ _ _ _ _ _ e).trans ?_
  have hi2 : i < (strOfNums l).data.size := by
    have : (strOfNums l).data.size = l.length := hs
    omega
  rw [bytesRow_at _ _ i hi2]
  have hb := hl l[i] (List.getElem_mem hi)
  simp [strOfNums, hi]
  omega

theorem walk (w : World) (x0 : List Int) (hx0 : x0.length = 32) (hy0 : Byt x0) (x1 : List Int) (hx1 : x1.length = 32) (hy1 : Byt x1) (hK : KT w) :
    Calls Tryd.prog 7 #[.agg (u8s x0), .agg (u8s x1)] w fun e w' => e = .returned (.bool true) ∧ Below w.heap.size w w' := by
  have HK := Lib.hid hK
  have HX := Lib.hid (And.intro hx0 (And.intro hy0 (And.intro hx1 hy1)))
  have HH := Lib.hid (fun w => hex_any x0 w hx0 hy0)
  have HH1 := Lib.hid (fun w => hex_any x1 w hx1 hy1)
  have HQ := Lib.hid (eq_hash x0 x1 hx0 hy0 hx1 hy1)
  have hu := Tryd.underlying24
  have hi0 : (Tryd.prog.info? 24).map (·.size) = some (u8s x0).toList.length := by rw [info_h32, Array.length_toList, u8s_size, hx0]
  have hi1 : (Tryd.prog.info? 24).map (·.size) = some (u8s x1).toList.length := by rw [info_h32, Array.length_toList, u8s_size, hx1]
  clear hx0 hx1 hy0 hy1 hK
  go_enter Tryd.func7, Tryd.ntmps7
  go_wp2_with fail
  have ha := heap_alloc2_old w (.cells (u8s x0) 24) (.cells (u8s x1) 24)
  have hb := heap_alloc2_new w (.cells (u8s x0) 24) (.cells (u8s x1) 24)
  have hbl := ((Below.refl w.heap.size w).alloc (Nat.le_refl _) (.cells (u8s x0) 24)).alloc (by simp) (.cells (u8s x1) 24)
  have hsz : ((w.alloc (.cells (u8s x0) 24)).alloc (.cells (u8s x1) 24)).heap.size = w.heap.size + 2 := by simp
  generalize World.alloc (World.alloc w _) _ = W1 at *
  refine (alive2_any W1 (HK.out.below hbl HK.out.pos)).mono ?_
  rintro e w2 ⟨rfl, hb2⟩
  have hA : ArrB w2 w.heap.size 24 x0 := (hb2.block _ (by omega)).trans ha
  have hB : ArrB w2 (w.heap.size + 1) 24 x1 := (hb2.block _ (by omega)).trans hb
  have hbel := hbl.trans (hb2.mono (by omega))
  have hz2 : w.heap.size + 2 ≤ w2.heap.size := by rw [← hsz]; exact hb2.size
  have HA := Lib.hid hA
  have HB := Lib.hid hB
  have HBL := Lib.hid hbel
  have HZ := Lib.hid hz2
  have RA : w2.rangeAt w.heap.size 0 (u8s x0).toList := fun j v hv => by rw [Nat.zero_add, cell_of_row _ _ _ _ _ _ hA, ← Array.getElem?_toList]; exact hv
  have RB : w2.rangeAt (w.heap.size + 1) 0 (u8s x1).toList := fun j v hv => by rw [Nat.zero_add, cell_of_row _ _ _ _ _ _ hB, ← Array.getElem?_toList]; exact hv
  clear ha hb hbl hsz hb2 hA hB hbel hz2
  have HS := Lib.hid (fun (W : World) (h : Below (w.heap.size + 2) w2 W) => (show W.rangeAt w.heap.size 0 (u8s x0).toList ∧ W.rangeAt (w.heap.size + 1) 0 (u8s x1).toList from
    ⟨fun j v hv => (h.cell (p := ⟨w.heap.size, 0 + j, none⟩) (show w.heap.size < w.heap.size + 2 by omega)).trans (RA j v hv), fun j v hv => (h.cell (p := ⟨w.heap.size + 1, 0 + j, none⟩) (show w.heap.size + 1 < w.heap.size + 2 by omega)).trans (RB j v hv)⟩))
  have RS := Lib.hid (show w2.drew.rangeAt w.heap.size 0 (u8s x0).toList ∧ w2.drew.rangeAt (w.heap.size + 1) 0 (u8s x1).toList from ⟨RA, RB⟩)
  clear RA RB
  go_wp2_with fail
  go_cut [5, 6] (fun v5 v6 wx => v5 = .string (strOfNums (hexI x0)) ∧ v6 = .string (strOfNums (hexI x1)) ∧ Below (w.heap.size + 2) w2 wx)
  case first =>
    refine wp_region_noPanic ?_
    refine wp_region_held_drew (S := fun w' => w'.rangeAt w.heap.size 0 (u8s x0).toList ∧ w'.rangeAt (w.heap.size + 1) 0 (u8s x1).toList) (by kernel_rfl) RS.out (fun hHeld => ?_)
    refine wpAnyH_take (i := 0) rfl (by kernel_rfl) (by kernel_rfl) (by kernel_rfl) (fun _ _ _ h => h) (yieldsIf_load_mid (by rfl) _ _ rfl w.heap.size 0 rfl (u8s x0).toList _ (fun w h => h.1) hu rfl hi0) (by assumption) ?_
    try simp only [Act.put, List.setIfInBounds_toArray, List.set_cons_zero, List.set_cons_succ, Array.toArray_toList]
    refine wpAnyH_take (i := 2) rfl (by kernel_rfl) (by kernel_rfl) (by kernel_rfl) (fun _ _ _ h => h) (yieldsIf_load_mid (by rfl) _ _ rfl (w.heap.size + 1) 0 rfl (u8s x1).toList _ (fun w h => h.2) hu rfl hi1) (by assumption) ?_
    try simp only [Act.put, List.setIfInBounds_toArray, List.set_cons_zero, List.set_cons_succ, Array.toArray_toList]
    refine wpAnyH_ready (rs := [1]) (by kernel_rfl) (by simp) ?_
    refine AllReadyH.cons rfl (fun K hK => ?_) AllReadyH.nil
    go_simp
    go_at_call 13
    refine (HH.out _).mono ?_
    rintro e w5 ⟨rfl, hb⟩
    have q5 : Below (w.heap.size + 2) w2 w5 := (Below.refl _ _).drew.trans (hb.mono HZ.out)
    have z5 : w.heap.size + 2 ≤ w5.heap.size := Nat.le_trans HZ.out q5.size
    clear hb
    go_wp2_with fail
    refine hK.out _ _ (HS.out _ q5) (fun hHeld => ?_)
    clear hK K
    try simp only [Act.put, List.setIfInBounds_toArray, List.set_cons_zero, List.set_cons_succ, Array.toArray_toList]
    refine wpAnyH_ready (rs := [3]) (by kernel_rfl) (by simp) ?_
    refine AllReadyH.cons rfl (fun K hK => ?_) AllReadyH.nil
    go_simp
    go_at_call 13
    refine (HH1.out _).mono ?_
    rintro e w6 ⟨rfl, hb⟩
    have q6 : Below (w.heap.size + 2) w2 w6 := q5.trans (hb.mono z5)
    have z6 : w.heap.size + 2 ≤ w6.heap.size := Nat.le_trans HZ.out q6.size
    clear hb
    go_wp2_with fail
    refine hK.out _ _ (HS.out _ q6) (fun hHeld => ?_)
    clear hK K
    try simp only [Act.put, List.setIfInBounds_toArray, List.set_cons_zero, List.set_cons_succ, Array.toArray_toList]
    refine wpAnyH_take (i := 4) (oi := ⟨some 5, _, _, _, _, _⟩) (v := ?_) rfl (by kernel_rfl) (by kernel_rfl) (by kernel_rfl) (fun _ _ _ h => h) (Or.inl ⟨by rfl, ?_⟩) (by assumption) ?_
    rotate_left 1
    · (intro w hSw; go_simp; try with_reducible rfl)
    try simp only [Act.put, List.setIfInBounds_toArray, List.set_cons_zero, List.set_cons_succ, Array.toArray_toList]
    refine wpAnyH_take (i := 5) (oi := ⟨some 6, _, _, _, _, _⟩) (v := ?_) rfl (by kernel_rfl) (by kernel_rfl) (by kernel_rfl) (fun _ _ _ h => h) (Or.inl ⟨by rfl, ?_⟩) (by assumption) ?_
    rotate_left 1
    · (intro w hSw; go_simp; try with_reducible rfl)
    try simp only [Act.put, List.setIfInBounds_toArray, List.set_cons_zero, List.set_cons_succ, Array.toArray_toList]
    refine wpAnyH_done (by kernel_rfl) ?_ _
    refine NoPanic.normal ?_
    go_wp2_with fail
    go_meet
    exact ⟨rfl, rfl, q6⟩
  case rest =>
    obtain ⟨rfl, rfl, hbc⟩ := hcut
    have HC := Lib.hid (HBL.out.trans (hbc.mono (by omega)))
    have HA2 := Lib.hid (show wc.heap[w.heap.size]? = some (.cells (u8s x0) 24 (0, 0)) from HA.out.below hbc (by omega))
    have HB2 := Lib.hid (show wc.heap[w.heap.size + 1]? = some (.cells (u8s x1) 24 (0, 0)) from HB.out.below hbc (by omega))
    obtain ⟨hx0, hy0, hx1, hy1⟩ := HX.out
    have S0 := Lib.hid (size_h32 x0 hx0)
    have S1 := Lib.hid (size_h32 x1 hx1)
    have hlen : (strOfNums (hexI x0)).size = 64 := by
      show (strOfNums (hexI x0)).data.size = 64
      simp [strOfNums, hexI_length]
    clear hx0 hy0 hx1 hy1 hbc
    have heq := HQ.out
    obtain ⟨hx0, hy0, hx1, hy1⟩ := HX.out
    have hse : ((strOfNums (hexI x0)).toList == (strOfNums (hexI x1)).toList) = decide (x0 = x1) := by
      rw [strOfNums_inj _ _ (hexI_byt x0 hy0) (hexI_byt x1 hy1)]
      by_cases h : x0 = x1
      · simp [h]
      · have : ¬ hexI x0 = hexI x1 := fun e => h (hexI_inj x0 x1 hx0 hy0 hx1 hy1 e)
        simp [h, this]
    obtain ⟨cap, W6, hcv, hb6, hbl6⟩ := conv_str (hexI x0) (hexI_byt x0 hy0) wc
    rw [hexI_length] at hcv hb6
    have HB6 := Lib.hid hb6
    have HBL6 := Lib.hid hbl6
    have HDG := Lib.hid (hexAt_digit x0 hy0)
    clear hx0 hy0 hx1 hy1 hb6 hbl6
    go_wp2_with (first
      | (with_reducible refine wpList_load_guarded (o := ⟨some 22, _, _, _, _, _⟩) (by kernel_rfl) 24 _ rfl w.heap.size rfl 24 (u8s x0) (0, 0) _ HA2.out Tryd.underlying24 rfl S0.out ?_)
      | (with_reducible refine wpList_load_guarded (o := ⟨some 23, _, _, _, _, _⟩) (by kernel_rfl) 24 _ rfl (w.heap.size + 1) rfl 24 (u8s x1) (0, 0) _ HB2.out Tryd.underlying24 rfl S1.out ?_))
    go_loop [30] (fun v30 => ∃ i : Nat, i ≤ 64 ∧ v30 = .int .i64 (i : Nat)) (fun v => 64 - (intOf v).toNat)
    case atStart => exact ⟨0, by omega, rfl⟩
    case round =>
      obtain ⟨i, hi, rfl⟩ := hrel
      by_cases hlt : i < 64
      · obtain ⟨_, cap', he, _, _, hcc⟩ := HB6.out
        have hci : W6.cell? ⟨wc.heap.size, i, none⟩ = some (.int .u8 (hexAt x0 i)) := by
          rcases hcc with h | ⟨bb, off, h, hc⟩
          · have := congrArg List.length h
            rw [hexI_length] at this
            simp at this
          · injection he with he1 he2 he3
            rw [← he1] at h
            injection h with h
            injection h with h1 h2 h3
            subst h1
            subst h2
            have := hc i (by rw [hexI_length]; exact hlt)
            rw [Nat.zero_add] at this
            rw [this]
            simp [hexI, hlt]
        clear he hcc
        have hiI : (i : Int) < 64 := by omega
        have hi0 : (0 : Int) ≤ (i : Int) := by omega
        have HLT := Lib.hid hlt
        rcases HDG.out i with ⟨g0, g1⟩ | ⟨g0, g1⟩
        · generalize hexAt x0 i = c at *
          clear hlt hi
          go_wp2_with fail
          go_round
          case rel => exact ⟨i + 1, by have := HLT.out; omega, by go_num⟩
          case measure => simp [intOf]; omega
        · generalize hexAt x0 i = c at *
          have g2 : ¬ c ≤ 57 := by omega
          have g3 : 48 ≤ c := by omega
          clear hlt hi
          go_wp2_with fail
          go_round
          case rel => exact ⟨i + 1, by have := HLT.out; omega, by go_num⟩
          case measure => simp [intOf]; omega
      · have hge : (64 : Int) ≤ (i : Int) := by omega
        clear hlt hi
        go_wp2_with fail
        go_ret
        exact ⟨rfl, HC.out.trans (HBL6.out.mono (by have := HC.out.size; omega))⟩
set_option maxRecDepth 100000 in
theorem lifted (os : Os) (started : os.Started) (H : Type) (enc : TypeId × Value → H) :
    ReturnsInHanded {} Tryd.checked os 7 .any (fun w args => (Rows.shaHexSpec.pre enc Tryd.prog Tryd.f7 [] false w args ∧ laidMetH Tryd.prog [("banyan/sha.roundNumbers", Rows.laid_banyan_sha_roundNumbers)] w) ∧ sizedMet enc Tryd.prog Tryd.f7 (OpenSpec.ofChange Rows.shaHexSpec) false w args)
      (Rows.shaHexSpec.post enc Tryd.prog Tryd.f7 false true false false) := by
  refine returnsInHanded_of_change_and (C := Tryd.checked) (X := fun w _ => laidMetH Tryd.prog [("banyan/sha.roundNumbers", Rows.laid_banyan_sha_roundNumbers)] w) (fun _ _ _ hh h => h.of_heap hh) own started (by kernel_rfl) Tryd.func7
    (ChangeSpec.witness_shaped (enc := enc) (C := Tryd.checked) (os := os) (X := fun w _ => laidMetH Tryd.prog [("banyan/sha.roundNumbers", Rows.laid_banyan_sha_roundNumbers)] w) false (World.doorLaid Tryd.prog 400 os) #[.agg (Array.replicate 32 (.int .u8 0)), .agg (Array.replicate 32 (.int .u8 0))] 8 rfl (World.shaped_of_RefB (by kernel_rfl) (by kernel_rfl)) (by kernel_rfl) (by kernel_rfl) (by kernel_rfl) (door_met os _)) ?_
  intro W base args ds gs before hval0 hW _ hsz0 hL _
  have hval : ∀ (j : Nat) t v, Tryd.f7.params[j]? = some t → args[j]? = some v → Value.okWide Tryd.prog W .any base t v := hval0
  have hsz : (DataW.weightsEach Tryd.prog (Tryd.f7.params.toList ++ Rows.shaHexSpec.plain.varTypes Tryd.prog) (ds ++ gs)).all (· ≤ reachBytes) = true := hsz0
  clear hsz0
  have hW' := hW
  obtain ⟨p, q, hA0, hV, rfl, hfz, hnd⟩ := hW
  have hA : DataW.TrodAll enc Tryd.prog W 0 (fun _ => true) true Tryd.f7.params.toList args.toList ds p := hA0
  rw [Tryd.params7] at hA hval hsz
  obtain ⟨v0, vs0, d0, ds0, p0, q0, hargs, rfl, rfl, h0, r0⟩ := trodAll_cons hA
  obtain ⟨v1, vs1, d1, ds1, p1, q1, rfl, rfl, rfl, h1, r1⟩ := trodAll_cons r0
  obtain ⟨rfl, rfl, rfl⟩ := trodAll_nil r1
  obtain rfl : args = #[v0, v1] := by cases args; simp_all
  obtain ⟨rfl, rfl⟩ := trodVars_none hV
  have k0 := h0
  have lt0 : ∀ x ∈ p0, x.block < W.heap.size := by obtain ⟨m, hm⟩ := k0; exact DataW.trod_lt m _ _ _ hm
  have k1 := h1
  have lt1 : ∀ x ∈ p1, x.block < W.heap.size := by obtain ⟨m, hm⟩ := k1; exact DataW.trod_lt m _ _ _ hm
  obtain ⟨x0, rfl, hx0, hy0⟩ := open_row Tryd.underlying24 (by kernel_rfl) (by decide) h0
  obtain ⟨x1, rfl, hx1, hy1⟩ := open_row Tryd.underlying24 (by kernel_rfl) (by decide) h1
  have hK := of_laid hL
  clear hA0 hval0
  refine (walk W x0 hx0 hy0 x1 hx1 hy1 hK).mono fun e W' ⟨he, bel⟩ => ?_
  subst he
  exact ⟨_, rfl, _, _, _, [], _, [], hW', trodAll_mk1 (shut_bool Tryd.underlying4 _), (trodAll_cons_mk (Below.trod laidOut (by kernel_rfl) (of_decide_eq_true (by kernel_rfl)) k0 bel lt0) (trodAll_cons_mk (Below.trod laidOut (by kernel_rfl) (of_decide_eq_true (by kernel_rfl)) k1 bel lt1) trodAll_mk0)), rfl, bel.frame _, fun h => by cases h⟩

theorem over : Rows.ShaHexSaid :=
  OpenClaim.holds_of_wide 7 Tryd.f7 rfl rfl rfl rfl rfl rfl rfl ⟨rfl, rfl, rfl, rfl, rfl⟩ rfl rfl rfl rfl rfl (by kernel_rfl) Tryd.func7 (by kernel_rfl)
    (of_decide_eq_true (by kernel_rfl)) (by unfold Func.isWrapper; first | (rw [if_pos (by decide +kernel)]; kernel_rfl) | (rw [if_neg (by decide +kernel)]; exact ⟨rfl, rfl⟩))
    (fun os started H enc _ => lifted os started H enc)

/-- The statement. -/
theorem proved : Rows.ShaHexCardSaid :=
  Claim7.holds_tied_plain_at .later [] [.data] true (true, "698d5c1e6826afa017c479af1af08b78f97d30d96166054830822b4b50163390") false
    over (fun _ h => by cases h) (by kernel_rfl) (fun _ h => by cases h) shaHex_row_tie rfl ⟨rfl, rfl⟩ (by kernel_rfl) rfl
    (fun f fn hf hfn => by
      obtain rfl : f = 7 := Option.some.inj ((show Tryd.prog.funcNamed "banyan/banyanlaw02.ShaHex" = some 7 by kernel_rfl).symm.trans hf) |>.symm
      obtain rfl : fn = Tryd.f7 := (Option.some.inj (Tryd.func7.symm.trans hfn)).symm
      exact ⟨by kernel_rfl, fun j t ht => by
        rw [Tryd.params7] at ht
        have hm : t ∈ [24, 24] := by simpa using Array.mem_of_getElem? ht
        have hall : ([24, 24].all fun u => !Tryd.prog.wantsStandIn u) = true := by kernel_rfl
        exact (show Tryd.prog.wantsStandIn t = false by simpa using List.all_eq_true.1 hall t hm)⟩)
    (by kernel_rfl)
#print axioms proved
end Go.Proofs.YtinkjoghdajhkaaDoor.shaHex
