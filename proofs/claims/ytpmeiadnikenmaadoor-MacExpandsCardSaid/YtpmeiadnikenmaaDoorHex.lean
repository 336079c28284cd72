/-
  A hash as a text.
-/
import Derived.Test.YtpmeiadnikenmaaDoorHash
import Derived.Test.YtpmeiadnikenmaaDoorNum
namespace Go.Proofs.YtpmeiadnikenmaaDoor
open Go.RowKit

/-- A digit by 16 as a letter. -/
def digI (d : Int) : Int := if d < 10 then 48 + d else 87 + d
def digsS : ByteArray := ⟨#[48, 49, 50, 51, 52, 53, 54, 55, 56, 57, 97, 98, 99, 100, 101, 102]⟩
theorem digs_at (d : Int) (h0 : 0 ≤ d) (h1 : d < 16) (w : World) : (Instr.index 9 (.string ⟨#[48, 49, 50, 51, 52, 53, 54, 55, 56, 57, 97, 98, 99, 100, 101, 102]⟩) (.int .u8 d)).run Tryd.prog w = .ok (.int .u8 (digI d)) w := by
  have : d = 0 ∨ d = 1 ∨ d = 2 ∨ d = 3 ∨ d = 4 ∨ d = 5 ∨ d = 6 ∨ d = 7 ∨ d = 8 ∨ d = 9 ∨ d = 10 ∨ d = 11 ∨ d = 12 ∨ d = 13 ∨ d = 14 ∨ d = 15 := by omega
  rcases this with rfl | rfl | rfl | rfl | rfl | rfl | rfl | rfl | rfl | rfl | rfl | rfl | rfl | rfl | rfl | rfl <;> (clear h0 h1; rfl)
theorem and15 (c : Int) (h0 : 0 ≤ c) (h1 : c ≤ 255) : bits BinOp.and IntKind.u8 c 15 = c % 16 := by
  obtain ⟨n, rfl⟩ := Int.eq_ofNat_of_zero_le h0
  have e : IntKind.u8.bits = 8 := rfl
  have := bits_nat_and IntKind.u8 n 15
  rw [e, Nat.mod_eq_of_lt (by omega), show 15 % 2 ^ 8 = 2 ^ 4 - 1 by decide, Nat.and_two_pow_sub_one_eq_mod] at this
  rw [show ((15 : Nat) : Int) = 15 by rfl] at this
  rw [this, wrap_u8_of _ (by omega)]
  omega
/-- A text's digit j of the bytes x. -/
def hexAt (x : List Int) (j : Nat) : Int := if j % 2 = 0 then digI (x.getD (j / 2) 0 / 16) else digI (x.getD (j / 2) 0 % 16)
def hexI (x : List Int) : List Int := (List.range 64).map (hexAt x)
def hexP (x : List Int) (n : Nat) : List Int := (List.range 64).map fun j => if j < 2 * n then hexAt x j else 0
theorem hexP_length (x : List Int) (n : Nat) : (hexP x n).length = 64 := by simp [hexP]
theorem hexI_length (x : List Int) : (hexI x).length = 64 := by simp [hexI]
theorem hexP_zero (x : List Int) : hexP x 0 = List.replicate 64 0 := by
  rw [List.eq_replicate_iff]
  refine ⟨by simp [hexP], fun b hb => ?_⟩
  simp only [hexP, List.mem_map] at hb
  obtain ⟨j, _, rfl⟩ := hb
  simp
theorem hexP_full (x : List Int) : hexP x 32 = hexI x := by
  apply List.ext_getElem (by simp [hexP, hexI])
  intro j h1 h2
  rw [hexI_length] at h2
  simp [hexP, hexI, h2]
theorem hexP_set (x : List Int) (i : Nat) : ((hexP x i).set (2 * i) (digI (x.getD i 0 / 16))).set (2 * i + 1) (digI (x.getD i 0 % 16)) = hexP x (i + 1) := by
  apply List.ext_getElem (by simp [hexP])
  intro j h1 h2
  rw [List.getElem_set, List.getElem_set]
  simp only [hexP, List.getElem_map, List.getElem_range]
  by_cases h : 2 * i + 1 = j
  · subst h
    rw [if_pos rfl, if_pos (by omega)]
    unfold hexAt
    rw [if_neg (by omega), show (2 * i + 1) / 2 = i by omega]
  · rw [if_neg h]
    by_cases h' : 2 * i = j
    · subst h'
      rw [if_pos rfl, if_pos (by omega)]
      unfold hexAt
      rw [if_pos (by omega), show 2 * i / 2 = i by omega]
    · rw [if_neg h']
      by_cases hl : j < 2 * i
      · rw [if_pos hl, if_pos (by omega)]
      · rw [if_neg hl, if_neg (by omega)]
theorem digI_byt (d : Int) (h0 : 0 ≤ d) (h1 : d < 16) : 0 ≤ digI d ∧ digI d ≤ 255 := by unfold digI; split <;> omega
theorem hexAt_byt (x : List Int) (hx : Byt x) (j : Nat) : 0 ≤ hexAt x j ∧ hexAt x j ≤ 255 := by
  obtain ⟨h0, h1⟩ := byt_at x hx (j / 2)
  rw [← List.getD_eq_getElem?_getD] at h0 h1
  unfold hexAt
  split
  · exact digI_byt _ (by omega) (by omega)
  · exact digI_byt _ (by omega) (by omega)
theorem hexI_byt (x : List Int) (hx : Byt x) : Byt (hexI x) := by
  intro z hz
  simp only [hexI, List.mem_map] at hz
  obtain ⟨j, _, rfl⟩ := hz
  exact hexAt_byt x hx j
theorem index_h32 (l : List Int) (hl : l.length = 32) (k : Nat) (h : k < 32) (w : World) : (Instr.index 24 (.agg (u8s l)) (.int .i64 (k : Int))).run Tryd.prog w = .ok (.int .u8 (l.getD k 0)) w := by
  obtain ⟨i0, hi, hs⟩ := Option.map_eq_some_iff.1 (show (Tryd.prog.info? 5).map (·.size) = some 1 by kernel_rfl)
  exact index_agg _ _ _ _ k _ i0 _ Tryd.underlying24 Tryd.underlying5 rfl hi hs h (by rw [u8s_at l k (by omega)]) w
theorem BS.of_arr {w : World} {g t : Nat} {l : List Int} (h : ArrB w g t l) (hl : Byt l) : BS w (.slice (some ⟨g, 0, none⟩) l.length l.length) l :=
  ⟨_, _, rfl, hl, nofun, .inr ⟨g, 0, rfl, fun i hi => by rw [Nat.zero_add]; exact h.cell hi⟩⟩
theorem slice_all64 (g : Nat) (W : World) : (Instr.sliceAt 58 (.pointer (some ⟨g, 0, none⟩)) none none none).run Tryd.prog W = .ok (.slice (some ⟨g, 0, none⟩) 64 64) W := by
  obtain ⟨i0, hi, _⟩ := Option.map_eq_some_iff.1 (show (Tryd.prog.info? 5).map (·.size) = some 1 by kernel_rfl)
  simp [Instr.sliceAt, run_underlying Tryd.underlying58, Instr.sureAddr, Instr.sliceBounds, sizeOf, typeInfo, hi, Addr.add_mid]

set_option maxRecDepth 100000 in
set_option maxHeartbeats 1600000 in
theorem hex_any (x : List Int) (w : World) (hx : x.length = 32) (hy : Byt x) :
    Calls Tryd.prog 15 #[.agg (u8s x)] w fun e w' => e = .returned (.string (strOfNums (hexI x))) ∧ Below w.heap.size w w' := by
  have HX := Lib.hid hx
  have HIX := Lib.hid (index_h32 x hx)
  have SH := Lib.hid (size_h32 x hx)
  clear hx
  go_enter Tryd.func15, Tryd.ntmps15
  go_wp2_with (first
    | (with_reducible refine wpList_load_row (o := ⟨some 6, _, _, _, _, _⟩) rfl 24 _ rfl w.heap.size rfl 24 (u8s x) (0, 0) _ (heap_alloc2_old w _ _) Tryd.underlying24 rfl SH.out ?_))
  have hM : ArrB ((w.alloc (.cells (u8s x) 24)).alloc (.cells (u8s (List.replicate 64 0)) 58)) (w.heap.size + 1) 58 (List.replicate 64 0) := heap_alloc2_new w _ _
  have hB : Below w.heap.size w ((w.alloc (.cells (u8s x) 24)).alloc (.cells (u8s (List.replicate 64 0)) 58)) := ((Below.refl w.heap.size w).alloc (Nat.le_refl _) _).alloc (by simp) _
  obtain ⟨W0, hW0⟩ : ∃ W0, W0 = ((w.alloc (.cells (u8s x) 24)).alloc (.cells (u8s (List.replicate 64 0)) 58)) := ⟨_, rfl⟩
  rw [← hW0] at hM hB
  have HM := Lib.hid hM
  have HB := Lib.hid hB
  clear hM hB
  generalize hW1 : World.alloc (World.alloc w _) _ = W1
  obtain rfl : W1 = W0 := by rw [hW0, ← hW1]; rfl
  clear hW1 hW0
  generalize hP : w.heap.size + 1 = P at *
  have HP := Lib.hid hP
  clear hP
  go_loopw [7] (fun v7 wr => ∃ i : Nat, i ≤ 32 ∧ v7 = .int .i64 (i : Nat) ∧ ArrB wr P 58 (hexP x i) ∧ Below w.heap.size w wr) (fun v _ => 32 - (intOf v).toNat)
  case atStart => exact ⟨0, by omega, rfl, by rw [hexP_zero]; exact HM.out, HB.out⟩
  case round =>
    obtain ⟨i, hi, rfl, hA, hb⟩ := hrel
    by_cases hlt : i < 32
    · obtain ⟨j, hj, hj2⟩ : ∃ j : Nat, (2 : Int) * (i : Int) = (j : Int) ∧ 2 * i = j := ⟨2 * i, by omega, rfl⟩
      have hix := HIX.out i hlt
      have hset := hexP_set x i
      obtain ⟨c0, c1⟩ := byt_at x hy i
      rw [← List.getD_eq_getElem?_getD] at c0 c1
      have k0 := hA.cell (k := j) (by rw [hexP_length]; omega)
      have k1 := hA.cell (k := j + 1) (by rw [hexP_length]; omega)
      have f0 := hA.free j
      have f1 := hA.free (j + 1)
      rw [hj2] at hset
      generalize (hexP x i).getD j 0 = o0 at *
      generalize (hexP x i).getD (j + 1) 0 = o1 at *
      generalize x.getD i 0 = c at *
      have hd0 := fun w => digs_at (c / 16) (by omega) (by omega) w
      have hd1 := fun w => digs_at (c % 16) (by omega) (by omega) w
      have ha := and15 c c0 c1
      have hiI : (i : Int) < 32 := by omega
      have hi0 : (0 : Int) ≤ (i : Int) := by omega
      have hjI : (j : Int) < 63 := by omega
      have hj0 : (0 : Int) ≤ (j : Int) := by omega
      have HSET := Lib.hid hset
      have HLT := Lib.hid hlt
      have HA := Lib.hid hA
      have HB2 := Lib.hid hb
      clear hset hlt hi hA hb hj2 hy
      go_wp2_with fail
      go_roundw
      case rel => exact ⟨i + 1, by have := HLT.out; omega, by go_num, by rw [← HSET.out]; exact (HA.out.set j _).set (j + 1) _, (HB2.out.setCell (p := ⟨P, j, none⟩) (show w.heap.size ≤ P by have := HP.out; omega) _).setCell (p := ⟨P, j + 1, none⟩) (show w.heap.size ≤ P by have := HP.out; omega) _⟩
      case measure => simp [intOf]; omega
    · have hge : (32 : Int) ≤ (i : Int) := by omega
      have e : i = 32 := by omega
      rw [e, hexP_full] at hA
      have hbs := BS.of_arr hA (hexI_byt x hy)
      rw [hexI_length] at hbs
      have hcv := conv_BS hbs
      have hsl := slice_all64 P
      have HB2 := Lib.hid hb
      clear hlt hi hA hb e hbs
      go_wp2_with fail
      go_ret
      exact ⟨rfl, HB2.out⟩
end Go.Proofs.YtpmeiadnikenmaaDoor
