/-
  The reference's inverse, and its box.
-/
import Derived.Test.YtfgdddejpdjllaaDoorRTimes
namespace Go.Proofs.YtfgdddejpdjllaaDoor
set_option maxRecDepth 4000
open Go.RowKit

theorem yv_ofNat (n : Nat) (h : n < 256) : yv (BitVec.ofNat 8 n) = (n : Int) := by
  unfold yv
  rw [BitVec.toNat_ofNat, Nat.mod_eq_of_lt (by omega)]
/-- k of five bits, summed, at place i. -/
def ab (v : BitVec 8) (i : Nat) : Nat → Bool
  | 0 => (0x63 : BitVec 8).getLsbD i
  | k + 1 => ab v i k ^^ v.getLsbD ((i + 8 - k) % 8)
def oL (v : BitVec 8) (i : Nat) (x : Int) : List Int := (List.range 8).map fun j => if j < i then bI (ab v j 5) else if j = i then x else 0
theorem oL_zero (v : BitVec 8) : (oL v 0 0).map (Value.int .u8) = List.replicate 8 (.int .u8 0) := by
  rw [List.eq_replicate_iff]
  refine ⟨by simp [oL], fun b hb => ?_⟩
  simp only [oL, List.mem_map] at hb
  obtain ⟨z, ⟨j, _, rfl⟩, rfl⟩ := hb
  simp
theorem oL_at (v : BitVec 8) (i : Nat) (x : Int) (h : i < 8) : ((oL v i x).map (Value.int .u8))[i]? = some (.int .u8 x) := by simp [oL, h]
theorem oL_set (v : BitVec 8) (i : Nat) (x y : Int) : ((oL v i x).map (Value.int .u8)).set i (.int .u8 y) = (oL v i y).map (Value.int .u8) := by
  apply List.ext_getElem
  · simp [oL]
  · intro j h1 h2
    rw [List.getElem_set]
    simp only [oL, List.getElem_map, List.getElem_range]
    by_cases e : i = j
    · subst e; simp
    · rw [if_neg e]
      by_cases hl : j < i
      · rw [if_pos hl, if_pos hl]
      · rw [if_neg hl, if_neg hl, if_neg (fun h => e h.symm), if_neg (fun h => e h.symm)]
theorem oL_next (v : BitVec 8) (i : Nat) : oL v i (bI (ab v i 5)) = oL v (i + 1) 0 := by
  apply List.map_congr_left
  intro j _
  by_cases e : j = i
  · subst e; simp
  · by_cases hl : j < i
    · rw [if_pos hl, if_pos (by omega)]
    · rw [if_neg hl, if_neg e, if_neg (by omega)]; simp
theorem oL_full : ∀ v : BitVec 8, oL v 8 0 = bl (affine v) := by decide +kernel
theorem bI_xor (p q : Bool) : bits BinOp.xor IntKind.u8 (bI p) (bI q) = bI (p ^^ q) := by revert p q; decide +kernel

set_option maxRecDepth 100000 in
set_option maxHeartbeats 1600000 in
theorem rboxed_any (v : BitVec 8) (w : World) : Calls Tryd.prog 29 #[.int .u8 (yv v)] w fun e w' => e = .returned (.int .u8 (yv (affine v))) ∧ Below w.heap.size w w' := by
  obtain ⟨i0, hi, hz0, hz1, hz2⟩ := info_parts info_u8
  have HBA := Lib.hid (fun w => rbits_y v w)
  have HBB := Lib.hid (show ∀ w, Calls Tryd.prog 45 #[.int .u64 99, .int .i64 8] w fun e w' => e = .returned (.slice (some ⟨w.heap.size, 0, none⟩) 8 8) ∧
    (∀ k, k < 8 → w'.cell? ⟨w.heap.size, k, none⟩ = some (.int .u8 (bI ((0x63 : BitVec 8).getLsbD k)))) ∧ w.heap.size < w'.heap.size ∧ Below w.heap.size w w' from fun w => rbits_y 0x63 w)
  have a0 := yv_pos v
  have a1 := yv_le v
  go_enter Tryd.func29, Tryd.ntmps29
  go_wp2_with fail
  refine (HBA.out _).mono ?_
  rintro e w1 ⟨rfl, hx1, hz1', hb1⟩
  have HX1 := Lib.hid (And.intro hx1 (And.intro hz1' hb1))
  clear hx1 hz1' hb1
  go_wp2_with fail
  refine (HBB.out _).mono ?_
  rintro e w2 ⟨rfl, hy2, hz2', hb2⟩
  have HX2 := Lib.hid (And.intro hy2 (And.intro hz2' hb2))
  clear hy2 hz2' hb2
  go_wp2_with (at_make; refine wpList_make_full _ rfl _ _ _ rfl w2.heap.size 5 i0 (.int .u8 0) 1 Tryd.underlying22 hi hz0 hz1 .i64 .i64 _ _ 8 rfl rfl (by rfl) (by rfl) ?c1 ?c2 ?c3 ?_)
  case c1 => rw [hz2]; omega
  case c2 => unfold maxLen; omega
  case c3 => omega
  intro w3 hown hgrow
  have hb := (Below.refl w2.heap.size w2).grown hgrow (Nat.le_refl _) (by simp)
  obtain ⟨hx1, l1, hbb1⟩ := HX1.out
  obtain ⟨hy2, l2, hbb2⟩ := HX2.out
  have hbel := (hbb1.trans (hbb2.mono (Nat.le_of_lt l1))).trans (hb.mono (Nat.le_of_lt (Nat.lt_trans l1 l2)))
  have hXc : ∀ W, Below w2.heap.size w3 W → (∀ k, k < 8 → W.cell? ⟨w.heap.size, k, none⟩ = some (.int .u8 (bI (v.getLsbD k)))) ∧ (∀ k, k < 8 → W.cell? ⟨w1.heap.size, k, none⟩ = some (.int .u8 (bI ((0x63 : BitVec 8).getLsbD k)))) := fun W hW =>
    ⟨fun k hk => (hW.cell (p := ⟨w.heap.size, k, none⟩) (Nat.lt_trans l1 l2)).trans ((hb.cell (p := ⟨w.heap.size, k, none⟩) (Nat.lt_trans l1 l2)).trans ((hbb2.cell (p := ⟨w.heap.size, k, none⟩) l1).trans (hx1 k hk))),
     fun k hk => (hW.cell (p := ⟨w1.heap.size, k, none⟩) l2).trans ((hb.cell (p := ⟨w1.heap.size, k, none⟩) l2).trans (hy2 k hk))⟩
  have HXC := Lib.hid hXc
  have HBL := Lib.hid hbel
  have HLE := Lib.hid (show w.heap.size ≤ w2.heap.size from Nat.le_of_lt (Nat.lt_trans l1 l2))
  rw [toList_madeCells_one, ← oL_zero v] at hown
  have HOWN := Lib.hid hown
  clear hown hgrow hb hx1 l1 hbb1 hy2 l2 hbb2 hbel hXc HX1 HX2 HBA HBB hi hz0 hz1 hz2 a0 a1
  generalize w2.heap.size = O at *
  generalize w1.heap.size = Y at *
  generalize hX : w.heap.size = X at *
  have HX := Lib.hid hX
  clear hX
  go_wp2_with fail
  go_loopw [15] (fun v15 wr => ∃ i : Nat, i ≤ 8 ∧ v15 = .int .i64 (i : Nat) ∧ wr.ownsRow O 5 1 (.slice (some ⟨O, 0, none⟩) 8 8) 8 ((oL v i 0).map (.int .u8)) ∧ Below O w3 wr) (fun v _ => 8 - (intOf v).toNat)
  case atStart => exact ⟨0, by omega, rfl, HOWN.out, Below.refl _ _⟩
  case round =>
    obtain ⟨i, hi, rfl, ho, hb⟩ := hrel
    by_cases hlt : i < 8
    · have cy := (HXC.out wr hb).2 i hlt
      have co := (ho.cellAt i (by omega)).trans (oL_at v i 0 hlt)
      have fo := ho.frozenAt i
      have HST := Lib.hid (ho.stored i)
      have HSET := Lib.hid (oL_set v i 0 (bI ((0x63 : BitVec 8).getLsbD i)))
      have HB := Lib.hid hb
      have HLT := Lib.hid hlt
      have iI : (i : Int) < 8 := by omega
      have i0 : (0 : Int) ≤ (i : Int) := by omega
      have HO1 := Lib.hid (show (wr.setCell ⟨O, i, none⟩ (.int .u8 (bI ((0x63 : BitVec 8).getLsbD i)))).ownsRow O 5 1 (.slice (some ⟨O, 0, none⟩) 8 8) 8 ((oL v i (bI (ab v i 0))).map (.int .u8)) by
        have h := (ho.stored i (.int .u8 (bI ((0x63 : BitVec 8).getLsbD i)))).1
        rw [oL_set] at h
        exact h)
      have HB1 := Lib.hid (hb.setCell (p := ⟨O, i, none⟩) (Nat.le_refl _) (.int .u8 (bI ((0x63 : BitVec 8).getLsbD i))))
      clear hi hlt ho hb
      generalize bI ((0x63 : BitVec 8).getLsbD i) = c at *
      go_wp2_with fail
      go_loopw [7] (fun v7 wr => ∃ k : Nat, k ≤ 5 ∧ v7 = .int .i64 (k : Nat) ∧ wr.ownsRow O 5 1 (.slice (some ⟨O, 0, none⟩) 8 8) 8 ((oL v i (bI (ab v i k))).map (.int .u8)) ∧ Below O w3 wr) (fun v _ => 5 - (intOf v).toNat)
      case atStart => exact ⟨0, by omega, rfl, HO1.out, HB1.out⟩
      case round =>
        obtain ⟨k, hk, rfl, ho, hb⟩ := hrel
        by_cases hlt : k < 5
        · have hlt2 := HLT.out
          obtain ⟨r, hr, hr2⟩ : ∃ r : Nat, ((i : Int) - (k : Int) + 8).tmod 8 = (r : Int) ∧ (i + 8 - k) % 8 = r := ⟨(i + 8 - k) % 8, by rw [Int.tmod_eq_emod_of_nonneg (by omega)]; omega, rfl⟩
          have e1 : IntKind.i64.wrap ((i : Int) - (k : Int)) = (i : Int) - (k : Int) := IntWalk.i64_in _ (by omega)
          have e2 : IntKind.i64.wrap ((i : Int) - (k : Int) + 8) = (i : Int) - (k : Int) + 8 := IntWalk.i64_in _ (by omega)
          have cx := (HXC.out wr hb).1 r (by omega)
          have co := (ho.cellAt i (by omega)).trans (oL_at v i (bI (ab v i k)) hlt2)
          have fo := ho.frozenAt i
          have hst := ho.stored i
          have hset := oL_set v i (bI (ab v i k)) (bI (ab v i (k + 1)))
          have hq := bI_xor (ab v i k) (v.getLsbD r)
          rw [← hr2, show (ab v i k ^^ v.getLsbD ((i + 8 - k) % 8)) = ab v i (k + 1) from rfl, hr2] at hq
          generalize bI (ab v i k) = p at *
          generalize hZ : bI (ab v i (k + 1)) = z at *
          have HZ := Lib.hid hZ
          generalize bI (v.getLsbD r) = x at *
          have HST2 := Lib.hid hst
          have HSET2 := Lib.hid hset
          have HB2 := Lib.hid hb
          have HK := Lib.hid hlt
          have kI : (k : Int) < 5 := by omega
          have k0 : (0 : Int) ≤ (k : Int) := by omega
          have rI : (r : Int) < 8 := by omega
          have r0 : (0 : Int) ≤ (r : Int) := by omega
          clear hk hlt hlt2 ho hb hst hset hr2 hZ
          go_wp2_with fail
          go_region
          go_wp2_with fail
          go_roundw
          case rel => exact ⟨k + 1, by have := HK.out; omega, by go_num, by rw [HZ.out, ← HSET2.out]; exact (HST2.out _).1, (HB2.out.setCell (p := ⟨O, i, none⟩) (Nat.le_refl _) _).drew⟩
          case measure => simp [intOf]; omega
        · have HK5 := Lib.hid (show k = 5 by omega)
          have hge : (5 : Int) ≤ (k : Int) := by omega
          have HO2 := Lib.hid ho
          have HB2 := Lib.hid hb
          clear hk hlt ho hb
          go_wp2_with fail
          go_roundw
          case rel => exact ⟨i + 1, by have := HLT.out; omega, by go_num, by have := HO2.out; rw [HK5.out, oL_next] at this; exact this, HB2.out⟩
          case measure => simp [intOf]; omega
    · have HI8 := Lib.hid (show i = 8 by omega)
      have hge : (8 : Int) ≤ (i : Int) := by omega
      have hbs : BS wr (.slice (some ⟨O, 0, none⟩) 8 8) (bl (affine v)) := by
        rw [HI8.out, oL_full] at ho
        refine ⟨some ⟨O, 0, none⟩, 8, rfl, fun z hz => ?_, nofun, .inr ⟨O, 0, rfl, fun k hk => ?_⟩⟩
        · simp only [bl, List.mem_map] at hz
          obtain ⟨j, _, rfl⟩ := hz
          have := bI_bit ((affine v).getLsbD j)
          omega
        · have hk8 : k < 8 := by simpa [bl] using hk
          rw [Nat.zero_add, (ho.cellAt k (by omega)).trans (bl_at (affine v) k hk8)]
          simp [bl, hk8]
      have HOF := Lib.hid (rof_any _ _ wr hbs (by simp [bl]) (fun z hz => by
        simp only [bl, List.mem_map] at hz
        obtain ⟨j, _, rfl⟩ := hz
        exact bI_bit _))
      have HB2 := Lib.hid hb
      have g0 := yv_pos (affine v)
      have g1 := yv_le (affine v)
      clear hi hlt ho hb hbs
      go_wp2_with fail
      refine (HOF.out).mono ?_
      rintro e w5 ⟨rfl, rfl⟩
      rw [bl_of]
      go_wp2_with fail
      go_ret
      rw [HX.out]
      exact ⟨rfl, HBL.out.trans (HB2.out.mono HLE.out)⟩
end Go.Proofs.YtfgdddejpdjllaaDoor
