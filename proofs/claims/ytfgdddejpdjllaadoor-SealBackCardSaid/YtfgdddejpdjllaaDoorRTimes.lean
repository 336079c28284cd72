/-
  The reference's product of two bytes.
-/
import Derived.Test.YtfgdddejpdjllaaDoorLow
import Derived.Test.YtfgdddejpdjllaaDoorPoly
import Derived.Test.YtfgdddejpdjllaaDoorAes0
namespace Go.Proofs.YtfgdddejpdjllaaDoor
set_option maxRecDepth 4000
open Go.RowKit

theorem rbits_y (a : BitVec 8) (w : World) : Calls Tryd.prog 45 #[.int .u64 (yv a), .int .i64 8] w fun e w' => e = .returned (.slice (some ⟨w.heap.size, 0, none⟩) 8 8) ∧
    (∀ k, k < 8 → w'.cell? ⟨w.heap.size, k, none⟩ = some (.int .u8 (bI (a.getLsbD k)))) ∧ w.heap.size < w'.heap.size ∧ Below w.heap.size w w' := by
  refine (rbits_any (yv a) 8 w (by omega) (yv_pos a) (by have := yv_lt a; omega)).mono ?_
  rintro e w' ⟨rfl, ho, hb⟩
  rw [bl_bits] at ho
  have hc : ∀ k, k < 8 → w'.cell? ⟨w.heap.size, k, none⟩ = some (.int .u8 (bI (a.getLsbD k))) := fun k hk => (ho.cellAt k hk).trans (bl_at a k hk)
  exact ⟨rfl, hc, World.block_lt_of_cell? w' _ (hc 0 (by omega)), hb⟩
def dv (j : Nat) : Nat := [8, 4, 3, 1, 0].getD j 0
theorem dv_run (j : Nat) (h : j < 5) (w : World) : (Instr.index 97 (.agg #[.int .i64 8, .int .i64 4, .int .i64 3, .int .i64 1, .int .i64 0]) (.int .i64 (j : Int))).run Tryd.prog w = .ok (.int .i64 (dv j : Nat)) w := by
  match j, h with
  | 0, _ | 1, _ | 2, _ | 3, _ | 4, _ => rfl
theorem dv_le (j : Nat) (h : j < 5) : dv j ≤ 8 := by
  match j, h with
  | 0, _ | 1, _ | 2, _ | 3, _ | 4, _ => decide
theorem partP_step (o j : Nat) (h : j < 5) : partP o (j + 1) = partP o j ^^^ tp (o + dv j) := by
  match j, h with
  | 0, _ => exact (BitVec.zero_xor (x := tp (o + 8))).symm
  | 1, _ | 2, _ | 3, _ | 4, _ => rfl

set_option maxRecDepth 100000 in
set_option maxHeartbeats 3200000 in
theorem rtimes_any (a b : BitVec 8) (w : World) : Calls Tryd.prog 28 #[.int .u8 (yv a), .int .u8 (yv b)] w fun e w' => e = .returned (.int .u8 (yv (gm a b))) ∧ Below w.heap.size w w' := by
  obtain ⟨i0, hi, hz0, hz1, hz2⟩ := info_parts info_u8
  have HBA := Lib.hid (fun w => rbits_y a w)
  have HBB := Lib.hid (fun w => rbits_y b w)
  have a0 := yv_pos a
  have a1 := yv_le a
  have b0 := yv_pos b
  have b1 := yv_le b
  go_enter Tryd.func28, Tryd.ntmps28
  go_wp2_with fail
  refine (HBA.out _).mono ?_
  rintro e w1 ⟨rfl, hx1, hz1', hb1⟩
  have HX1 := Lib.hid (And.intro hx1 (And.intro hz1' hb1))
  clear hx1 hz1' hb1
  go_wp2_with fail
  refine (HBB.out _).mono ?_
  rintro e w2 ⟨rfl, hy2, hz2', hb2⟩
  have HX2 := Lib.hid (And.intro hy2 (And.intro hz2' hb2))
  clear hy2 hz2' hb2
  go_wp2_with (at_make; refine wpList_make_full _ rfl _ _ _ rfl w2.heap.size 5 i0 (.int .u8 0) 1 Tryd.underlying22 hi hz0 hz1 .i64 .i64 _ _ 15 rfl rfl (by rfl) (by rfl) ?c1 ?c2 ?c3 ?_)
  case c1 => rw [hz2]; omega
  case c2 => unfold maxLen; omega
  case c3 => omega
  intro w3 hown hgrow
  have hb := (Below.refl w2.heap.size w2).grown hgrow (Nat.le_refl _) (by simp)
  obtain ⟨hx1, l1, hbb1⟩ := HX1.out
  obtain ⟨hy2, l2, hbb2⟩ := HX2.out
  have hbel := (hbb1.trans (hbb2.mono (Nat.le_of_lt l1))).trans (hb.mono (Nat.le_of_lt (Nat.lt_trans l1 l2)))
  have hXc : ∀ W, Below w2.heap.size w3 W → (∀ k, k < 8 → W.cell? ⟨w.heap.size, k, none⟩ = some (.int .u8 (bI (a.getLsbD k)))) ∧ (∀ k, k < 8 → W.cell? ⟨w1.heap.size, k, none⟩ = some (.int .u8 (bI (b.getLsbD k)))) := fun W hW =>
    ⟨fun k hk => (hW.cell (p := ⟨w.heap.size, k, none⟩) (Nat.lt_trans l1 l2)).trans ((hb.cell (p := ⟨w.heap.size, k, none⟩) (Nat.lt_trans l1 l2)).trans ((hbb2.cell (p := ⟨w.heap.size, k, none⟩) l1).trans (hx1 k hk))),
     fun k hk => (hW.cell (p := ⟨w1.heap.size, k, none⟩) l2).trans ((hb.cell (p := ⟨w1.heap.size, k, none⟩) l2).trans (hy2 k hk))⟩
  have HXC := Lib.hid hXc
  have HBL := Lib.hid hbel
  have HLE := Lib.hid (show w.heap.size ≤ w2.heap.size from Nat.le_of_lt (Nat.lt_trans l1 l2))
  rw [toList_madeCells_one, ← pv_zero] at hown
  have HOWN := Lib.hid hown
  clear hown hgrow hb hx1 l1 hbb1 hy2 l2 hbb2 hbel hXc HX1 HX2 HBA HBB hi hz0 hz1 hz2 a0 a1 b0 b1
  generalize w2.heap.size = O at *
  generalize w1.heap.size = Y at *
  generalize hX : w.heap.size = X at *
  have HX := Lib.hid hX
  clear hX
  go_wp2_with fail
  go_loopw [22] (fun v22 wr => ∃ i : Nat, i ≤ 8 ∧ v22 = .int .i64 (i : Nat) ∧ wr.ownsRow O 5 1 (.slice (some ⟨O, 0, none⟩) 15 15) 15 ((pv (mulP a b (8 * i))).map (.int .u8)) ∧ Below O w3 wr) (fun v _ => 8 - (intOf v).toNat)
  case atStart => exact ⟨0, by omega, rfl, HOWN.out, Below.refl _ _⟩
  case round =>
    obtain ⟨i, hi, rfl, ho, hb⟩ := hrel
    by_cases hlt : i < 8
    · have HO := Lib.hid ho
      have HB := Lib.hid hb
      have HLT := Lib.hid hlt
      have iI : (i : Int) < 8 := by omega
      have i0 : (0 : Int) ≤ (i : Int) := by omega
      clear hi hlt ho hb
      go_wp2_with fail
      go_loopw [27] (fun v27 wr => ∃ k : Nat, k ≤ 8 ∧ v27 = .int .i64 (k : Nat) ∧ wr.ownsRow O 5 1 (.slice (some ⟨O, 0, none⟩) 15 15) 15 ((pv (mulP a b (8 * i + k))).map (.int .u8)) ∧ Below O w3 wr) (fun v _ => 8 - (intOf v).toNat)
      case atStart => exact ⟨0, by omega, rfl, HO.out, HB.out⟩
      case round =>
        obtain ⟨k, hk, rfl, ho, hb⟩ := hrel
        by_cases hlt : k < 8
        · have hlt2 := HLT.out
          have cx := (HXC.out wr hb).1 i hlt2
          have cy := (HXC.out wr hb).2 k hlt
          have co := (ho.cellAt (i + k) (by omega)).trans (pv_at (mulP a b (8 * i + k)) (i + k) (by omega))
          have fo := ho.frozenAt (i + k)
          have hst := ho.stored (i + k)
          have hset := pv_set (mulP a b (8 * i + k)) (i + k) (a.getLsbD i && b.getLsbD k) (by omega)
          have hstep : mulP a b (8 * i + k) ^^^ (if a.getLsbD i && b.getLsbD k then tp (i + k) else 0) = mulP a b (8 * i + (k + 1)) := by
            show _ = mulP a b (8 * i + k + 1)
            rw [mulP, show (8 * i + k) / 8 = i by omega, show (8 * i + k) % 8 = k by omega]
          rw [hstep] at hset
          have hq := bI_step ((mulP a b (8 * i + k)).getLsbD (i + k)) (a.getLsbD i) (b.getLsbD k)
          have hbx := bI_bit (a.getLsbD i)
          have hby := bI_bit (b.getLsbD k)
          generalize bI ((mulP a b (8 * i + k)).getLsbD (i + k)) = p at *
          generalize bI ((mulP a b (8 * i + k)).getLsbD (i + k) ^^ (a.getLsbD i && b.getLsbD k)) = r at *
          generalize bI (a.getLsbD i) = x at *
          generalize bI (b.getLsbD k) = y at *
          obtain ⟨x0, x1⟩ := hbx
          obtain ⟨y0, y1⟩ := hby
          obtain ⟨z, hz⟩ : ∃ z, x * y = z := ⟨_, rfl⟩
          have z01 : 0 ≤ z ∧ z ≤ 1 := by
            rw [← hz]
            have h1 : x = 0 ∨ x = 1 := by omega
            rcases h1 with rfl | rfl <;> omega
          rw [hz] at hq
          obtain ⟨z0, z1⟩ := z01
          have HST := Lib.hid hst
          have HSET := Lib.hid hset
          have HB2 := Lib.hid hb
          have HK := Lib.hid (And.intro hlt hlt2)
          have kI : (k : Int) < 8 := by omega
          have k0 : (0 : Int) ≤ (k : Int) := by omega
          clear hk hlt hlt2 ho hb hst hset hstep x0 x1 y0 y1
          go_wp2_with fail
          go_region
          go_wp2_with fail
          go_roundw
          case rel => exact ⟨k + 1, by have := HK.out; omega, by go_num, by rw [← HSET.out]; exact (HST.out _).1, (HB2.out.setCell (p := ⟨O, i + k, none⟩) (Nat.le_refl _) _).drew⟩
          case measure => simp [intOf]; omega
        · have HK8 := Lib.hid (show k = 8 by omega)
          have hge : (8 : Int) ≤ (k : Int) := by omega
          have HO2 := Lib.hid ho
          have HB2 := Lib.hid hb
          clear hk hlt ho hb
          go_wp2_with fail
          go_roundw
          case rel => exact ⟨i + 1, by have := HLT.out; omega, by go_num, by have := HO2.out; rw [HK8.out] at this; exact this, HB2.out⟩
          case measure => simp [intOf]; omega
    · have HI8 := Lib.hid (show i = 8 by omega)
      have hge : (8 : Int) ≤ (i : Int) := by omega
      have HO := Lib.hid (show wr.ownsRow O 5 1 (.slice (some ⟨O, 0, none⟩) 15 15) 15 ((pv (mulP a b 64)).map (.int .u8)) by have := ho; rw [HI8.out] at this; exact this)
      have HB := Lib.hid hb
      clear hi hlt ho hb
      go_wp2_with fail
      clear hge
      generalize hM : mulP a b 64 = M at *
      have HM := Lib.hid hM
      clear hM
      go_loopw [10] (fun v10 wr => ∃ n i : Nat, n + i = 14 ∧ n ≤ 7 ∧ v10 = .int .i64 (i : Nat) ∧ wr.ownsRow O 5 1 (.slice (some ⟨O, 0, none⟩) 15 15) 15 ((pv (redP M n)).map (.int .u8)) ∧ Below O w3 wr) (fun v _ => (intOf v).toNat)
      case atStart => exact ⟨0, 14, by omega, by omega, rfl, HO.out, HB.out⟩
      case round =>
        clear HO HB
        obtain ⟨n, i, hn, hn7, rfl, ho, hb⟩ := hrel
        by_cases h8 : 8 ≤ i
        · obtain ⟨o, eo, ho2⟩ : ∃ o : Nat, IntKind.i64.wrap ((i : Int) - 8) = (o : Int) ∧ i = o + 8 := ⟨i - 8, by rw [IntWalk.i64_in _ (by omega)]; omega, by omega⟩
          obtain ⟨p, ep, hp⟩ : ∃ p : Nat, IntKind.i64.wrap ((i : Int) - 1) = (p : Int) ∧ i = p + 1 := ⟨i - 1, by rw [IntWalk.i64_in _ (by omega)]; omega, by omega⟩
          have ci := (ho.cellAt i (by omega)).trans (pv_at (redP M n) i (by omega))
          have HN := Lib.hid (And.intro hn (And.intro hn7 (And.intro ho2 hp)))
          have HO := Lib.hid ho
          have HB := Lib.hid hb
          have iI : (8 : Int) ≤ (i : Int) := by omega
          have i15 : (i : Int) < 15 := by omega
          cases hq : (redP M n).getLsbD i
          · rw [hq] at ci
            have ci0 : wr.cell? ⟨O, i, none⟩ = some (.int .u8 0) := ci
            have HQ := Lib.hid (show redP M (n + 1) = redP M n by rw [redP, show 14 - n = i by omega, hq]; exact BitVec.xor_zero)
            clear hn hn7 ho2 hp ho hb hq ci h8
            go_wp2_with fail
            go_roundw
            case rel => exact ⟨n + 1, p, by have := HN.out; omega, by have := HN.out; omega, by go_num, by rw [HQ.out]; exact HO.out, HB.out⟩
            case measure => simp [intOf]; have := HN.out; omega
          · rw [hq] at ci
            have ci1 : wr.cell? ⟨O, i, none⟩ = some (.int .u8 1) := ci
            have HQ := Lib.hid (show redP M (n + 1) = redP M n ^^^ partP o 5 by rw [redP, show 14 - n = i by omega, hq, show 6 - n = o by omega]; rfl)
            have oI : (o : Int) < 7 := by omega
            have o0 : (0 : Int) ≤ (o : Int) := by omega
            have HOI := Lib.hid (show o < 7 by omega)
            clear hn hn7 ho2 hp ho hb hq ci h8
            go_wp2_with fail
            clear ci1
            go_loopw [59] (fun v59 wr => ∃ j : Nat, j ≤ 5 ∧ v59 = .int .i64 (j : Nat) ∧ wr.ownsRow O 5 1 (.slice (some ⟨O, 0, none⟩) 15 15) 15 ((pv (redP M n ^^^ partP o j)).map (.int .u8)) ∧ Below O w3 wr) (fun v _ => 5 - (intOf v).toNat)
            case atStart => exact ⟨0, by omega, rfl, by rw [partP, show redP M n ^^^ (0 : BitVec 16) = redP M n from BitVec.xor_zero]; exact HO.out, HB.out⟩
            case round =>
              obtain ⟨j, hj, rfl, ho, hb⟩ := hrel
              by_cases hlt : j < 5
              · have hdv := dv_run j hlt
                have hdl := dv_le j hlt
                have hps := partP_step o j hlt
                generalize dv j = d at *
                have hoo := HOI.out
                have co := (ho.cellAt (o + d) (by omega)).trans (pv_at (redP M n ^^^ partP o j) (o + d) (by omega))
                have fo := ho.frozenAt (o + d)
                have hst := ho.stored (o + d)
                have hset := pv_set (redP M n ^^^ partP o j) (o + d) true (by omega)
                rw [if_pos rfl, BitVec.xor_assoc, ← hps] at hset
                have hfl := bI_flip ((redP M n ^^^ partP o j).getLsbD (o + d))
                generalize bI ((redP M n ^^^ partP o j).getLsbD (o + d)) = u at *
                generalize bI ((redP M n ^^^ partP o j).getLsbD (o + d) ^^ true) = v at *
                have HST := Lib.hid hst
                have HSET := Lib.hid hset
                have HB2 := Lib.hid hb
                have HJ := Lib.hid hlt
                have jI : (j : Int) < 5 := by omega
                have j0 : (0 : Int) ≤ (j : Int) := by omega
                have dI : (d : Int) ≤ 8 := by omega
                have d0 : (0 : Int) ≤ (d : Int) := by omega
                clear hj hlt ho hb hst hset hps hdl hoo
                go_wp2_with fail
                go_roundw
                case rel => exact ⟨j + 1, by have := HJ.out; omega, by go_num, by rw [← HSET.out]; exact (HST.out _).1, HB2.out.setCell (p := ⟨O, o + d, none⟩) (Nat.le_refl _) _⟩
                case measure => simp [intOf]; omega
              · have HJ5 := Lib.hid (show j = 5 by omega)
                have hge : (5 : Int) ≤ (j : Int) := by omega
                have HO2 := Lib.hid ho
                have HB2 := Lib.hid hb
                clear hj hlt ho hb
                go_wp2_with fail
                go_roundw
                case rel => exact ⟨n + 1, p, by have := HN.out; omega, by have := HN.out; omega, by go_num, by have := HO2.out; rw [HJ5.out, ← HQ.out] at this; exact this, HB2.out⟩
                case measure => simp [intOf]; have := HN.out; omega
        · have HN7 := Lib.hid (show n = 7 by omega)
          have hlt8 : (i : Int) < 8 := by omega
          have hrt : (redP M 7).setWidth 8 = gm a b := by rw [← HM.out]; exact rt_eq a b
          have hbs : BS wr (.slice (some ⟨O, 0, none⟩) 8 15) (bl (gm a b)) := by
            rw [HN7.out] at ho
            refine ⟨some ⟨O, 0, none⟩, 15, rfl, fun z hz => ?_, nofun, .inr ⟨O, 0, rfl, fun k hk => ?_⟩⟩
            · simp only [bl, List.mem_map] at hz
              obtain ⟨j, _, rfl⟩ := hz
              have := bI_bit ((gm a b).getLsbD j)
              omega
            · have hk8 : k < 8 := by simpa [bl] using hk
              rw [Nat.zero_add, (ho.cellAt k (by omega)).trans (pv_at (redP M 7) k (by omega))]
              have : bI ((redP M 7).getLsbD k) = (bl (gm a b)).getD k 0 := by
                rw [← hrt]
                simp [bl, hk8, BitVec.getLsbD_setWidth]
              rw [this]
          have HOF := Lib.hid (rof_any _ _ wr hbs (by simp [bl]) (fun z hz => by
            simp only [bl, List.mem_map] at hz
            obtain ⟨j, _, rfl⟩ := hz
            exact bI_bit _))
          have HB2 := Lib.hid hb
          have g0 := yv_pos (gm a b)
          have g1 := yv_le (gm a b)
          clear hn hn7 h8 ho hb hrt hbs
          go_wp2_with fail
          refine (HOF.out).mono ?_
          rintro e w5 ⟨rfl, rfl⟩
          rw [bl_of]
          go_wp2_with fail
          go_ret
          rw [HX.out]
          exact ⟨rfl, HBL.out.trans (HB2.out.mono HLE.out)⟩
end Go.Proofs.YtfgdddejpdjllaaDoor
