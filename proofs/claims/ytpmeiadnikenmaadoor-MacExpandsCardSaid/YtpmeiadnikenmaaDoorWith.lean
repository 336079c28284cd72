/-
  The reference's hash: of bytes, with the numbers made.
-/
import Derived.Test.YtpmeiadnikenmaaDoorBlock
import Derived.Test.YtpmeiadnikenmaaDoorZeros
import Derived.Deep.DeepCutAuto
namespace Go.Proofs.YtpmeiadnikenmaaDoor
open Go.RowKit

set_option maxRecDepth 100000 in
theorem hashH_eq : hashH = H0.map BitVec.toNat := by decide +kernel
set_option maxRecDepth 100000 in
theorem hashK_eq : hashK = KS.map BitVec.toNat := by decide +kernel
theorem u32s_wvs (xs : List (BitVec 32)) : u32s (xs.map BitVec.toNat) = (wvs xs).toList := by
  unfold u32s wvs
  rw [List.map_map]
  rfl
/-- What Made leaves, as the numbers that hashes are made with. -/
structure Mad (w : World) (g1 c1 g2 c2 : Nat) : Prop where
  h : ∀ i, i < 8 → w.cell? ⟨g1, i, none⟩ = some (.int .u32 (wv (H0.getD i 0)))
  k : ∀ i, i < 64 → w.cell? ⟨g2, i, none⟩ = some (.int .u32 (wv (KS.getD i 0)))
  c1 : 8 ≤ c1
  c2 : 64 ≤ c2
theorem Mad.lt {w : World} {g1 c1 g2 c2 : Nat} (m : Mad w g1 c1 g2 c2) : g1 < w.heap.size ∧ g2 < w.heap.size := ⟨block_lt_of_cell (m.h 0 (by decide)), block_lt_of_cell (m.k 0 (by decide))⟩
theorem Mad.kept {w w' : World} {g1 c1 g2 c2 : Nat} (m : Mad w g1 c1 g2 c2) (hb : Below w.heap.size w w') : Mad w' g1 c1 g2 c2 :=
  ⟨fun i hi => (hb.cell (p := ⟨g1, i, none⟩) m.lt.1).trans (m.h i hi), fun i hi => (hb.cell (p := ⟨g2, i, none⟩) m.lt.2).trans (m.k i hi), m.c1, m.c2⟩
theorem made_any (w : World) : Calls Tryd.prog 17 #[] w fun e w' => (∃ g1 c1 g2 c2, e = .returned (.agg #[.slice (some ⟨g1, 0, none⟩) 8 c1, .slice (some ⟨g2, 0, none⟩) 64 c2]) ∧ Mad w' g1 c1 g2 c2) ∧ Below w.heap.size w w' := by
  refine (rmade_any w).mono ?_
  rintro e w' ⟨v1, v2, rfl, h1, h2, hb⟩
  obtain ⟨a1, c1, rfl, hs1⟩ := own_shape h1
  obtain ⟨g1, rfl, k1⟩ := hs1.resolve_left (by omega)
  obtain ⟨a2, c2, rfl, hs2⟩ := own_shape h2
  obtain ⟨g2, rfl, k2⟩ := hs2.resolve_left (by omega)
  rw [hashH_eq, u32s_wvs] at k1
  rw [hashK_eq, u32s_wvs] at k2
  have r1 : 8 ≤ c1 := by
    rcases h1.2 with ⟨h, _⟩ | ⟨g, cap, cur, h, _, _, hn, _⟩
    · cases h
    · injection h with _ _ h; subst h; exact hn
  have r2 : 64 ≤ c2 := by
    rcases h2.2 with ⟨h, _⟩ | ⟨g, cap, cur, h, _, _, hn, _⟩
    · cases h
    · injection h with _ _ h; subst h; exact hn
  exact ⟨⟨g1, c1, g2, c2, rfl, ⟨fun i hi => (k1 i hi).trans (by rw [Array.getElem?_toList]; exact wvs_at H0 i hi), fun i hi => (k2 i hi).trans (by rw [Array.getElem?_toList]; exact wvs_at KS i (by rw [KS_length]; exact hi)), r1, r2⟩⟩, hb⟩

set_option maxHeartbeats 400000 in
theorem rbytes_any (x : Int) (n : Nat) (w : World) (h2 : n ≤ 8) (h0 : 0 ≤ x) (h1 : x < 18446744073709551616) (h3 : x / 256 ^ n = 0) :
    Calls Tryd.prog 37 #[.int .u64 x, .int .i64 n] w fun e w' => e = .returned (.slice (some ⟨w.heap.size, 0, none⟩) n n) ∧ w'.ownsRow w.heap.size 5 1 (.slice (some ⟨w.heap.size, 0, none⟩) n n) n ((putI x n).map (.int .u8)) ∧ Below w.heap.size w w' := by
  have HP := Lib.hid (rput_loop x n w h2 h0 h1)
  have H3 := Lib.hid h3
  clear h0 h1 h2 h3
  go_enter Tryd.func37, Tryd.ntmps37
  go_wp2_with fail
  refine HP.out.mono ?_
  rintro e w' ⟨hb, h | h⟩
  · obtain ⟨_, rfl, ho⟩ := h
    have HO := Lib.hid ho
    clear ho
    go_wp2_with fail
    go_ret
    exact ⟨rfl, HO.out, hb⟩
  · exact absurd H3.out h.1

theorem size_u32x8 (x : List (BitVec 32)) (h : x.length = 8) : (Tryd.prog.info? 62).map (·.size) = some (wvs x).size := by rw [show (Tryd.prog.info? 62).map (·.size) = some 8 by kernel_rfl, wvs_size, h]
theorem slice_u32x8 (g : Nat) (W : World) : (Instr.sliceAt 62 (.pointer (some ⟨g, 0, none⟩)) none none none).run Tryd.prog W = .ok (.slice (some ⟨g, 0, none⟩) 8 8) W := by
  obtain ⟨i0, hi, _⟩ := Option.map_eq_some_iff.1 one_u32
  simp [Instr.sliceAt, run_underlying Tryd.underlying62, Instr.sureAddr, Instr.sliceBounds, sizeOf, typeInfo, hi, Addr.add_mid]
/-- From byte 4 i of a hash on. -/
theorem slice_h32 (g i : Nat) (hi : i < 8) (W : World) : (Instr.sliceAt 24 (.pointer (some ⟨g, 0, none⟩)) (some (.int .i64 (4 * (i : Int)))) none none).run Tryd.prog W = .ok (.slice (some ⟨g, 4 * i, none⟩) (32 - 4 * i) (32 - 4 * i)) W := by
  obtain ⟨i0, hi0, hs⟩ := Option.map_eq_some_iff.1 one_u8
  have hb : (Instr.sliceBound (.int .i64 (4 * (i : Int))) 32 .sliceB).run Tryd.prog W = .ok (4 * i) W := by
    have := bound_ok (4 * i) 32 .sliceB (by omega) W
    rwa [Int.natCast_mul] at this
  have hne : ¬ (32 = 4 * i) := by omega
  simp [Instr.sliceAt, run_underlying Tryd.underlying24, Instr.sureAddr, Instr.sliceBounds, sizeOf, typeInfo, hi0, hs, hb, hne, Addr.add_mid]
theorem hashP_four (x : List (BitVec 32)) (i : Nat) (h : i < 8) : splice (u8s (hashP x (4 * i))).toList (4 * i) (u8s (putI (wv (x.getD i 0)) 4)).toList = (u8s (hashP x (4 * (i + 1)))).toList := by
  have key : (hashP x (4 * i)).take (4 * i) ++ putI (wv (x.getD i 0)) 4 ++ (hashP x (4 * i)).drop (4 * i + 4) = hashP x (4 * (i + 1)) := by
    apply List.ext_getElem
    · simp [hashP_length, putI_length]; omega
    · intro j h1 h2
      rw [hashP_length] at h2
      by_cases hj : j < 4 * i
      · rw [List.getElem_append_left (by simp [hashP_length, putI_length]; omega), List.getElem_append_left (by simp [hashP_length]; omega), List.getElem_take]
        simp only [hashP, List.getElem_map, List.getElem_range]
        rw [if_pos hj, if_pos (by omega)]
      · by_cases hj2 : j < 4 * i + 4
        · rw [List.getElem_append_left (by simp [hashP_length, putI_length]; omega), List.getElem_append_right (by simp [hashP_length]; omega)]
          simp only [putI, hashP, List.getElem_map, List.getElem_range, List.length_take, List.length_map, List.length_range]
          rw [if_pos (by omega), show min (4 * i) 32 = 4 * i by omega, show j / 4 = i by omega, show 4 - 1 - (j - 4 * i) = 3 - j % 4 by omega]
        · rw [List.getElem_append_right (by simp [hashP_length, putI_length]; omega), List.getElem_drop]
          simp only [hashP, List.getElem_map, List.getElem_range, List.length_append, List.length_take, List.length_map, List.length_range, putI_length]
          rw [if_neg (by omega), if_neg (by omega)]
  unfold splice
  rw [← key]
  simp [u8s, List.map_take, List.map_drop, putI_length]
end Go.Proofs.YtpmeiadnikenmaaDoor
