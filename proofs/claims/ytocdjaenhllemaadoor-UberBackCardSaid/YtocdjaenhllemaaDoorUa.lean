/-
  Ubers: the laws' own uber, and the document's example.
-/
import Derived.Test.YtocdjaenhllemaaDoorUc
namespace Go.Proofs.YtocdjaenhllemaaDoor
set_option maxRecDepth 4000
open Go.ChangeShapes Go.WideShapes Go.ChangeAt Go.RowKit

def fiveP : PtrV := ⟨5, 1, List.replicate 32 0, by decide, by decide, by decide, byt_zeros8 32⟩
def ofU (x : Nat) (h : x ≤ 18446744073709551615) : UbV := ⟨(x : Int), 16, fiveP, by omega, by decide⟩
theorem mayU_of (x : Nat) (h : x ≤ 18446744073709551615) (h0 : x ≠ 0) : mayU (ofU x h) = true := by
  have e : mayB fiveP 16 = true := by decide
  unfold mayU ofU
  simp [e, h0]
theorem build_five (W : World) : (Instr.build 28 #[(0, .int .u32 5), (1, .int .u64 1)]).run Tryd.prog W = .ok (.agg (ptrRow fiveP).toArray) W :=
  run_build W 28 _ _ (by rw [built_ptr]; rfl)
set_option maxRecDepth 100000 in
set_option maxHeartbeats 800000 in
theorem uof_any (x : Nat) (h : x ≤ 18446744073709551615) (w : World) :
    Calls Tryd.prog 22 #[.int .u64 (x : Int)] w fun e w' => e = .returned (.agg (ubRow (ofU x h)).toArray) ∧ Below w.heap.size w w' := by
  have hz := zero_ub
  have HA := Lib.hid (heap_alloc_new w (.cells (ubRow zeroUb).toArray 30))
  have HB := Lib.hid ((Below.refl w.heap.size w).alloc (Nat.le_refl _) (.cells (ubRow zeroUb).toArray 30))
  have HBD := Lib.hid (fun W => show (Instr.build 30 #[(0, .int .u64 (x : Int)), (1, .int .u32 16), (2, .agg (ptrRow fiveP).toArray)]).run Tryd.prog W = .ok (.agg (ubRow (ofU x h)).toArray) W from build_ub (ofU x h) W)
  have HB5 := Lib.hid build_five
  have SE := Lib.hid (size_ubA (ofU x h))
  have SL := Lib.hid (show (ubRow zeroUb).toArray.size = (ubRow (ofU x h)).toArray.size by simp [ubRow_length])
  have SO := Lib.hid (ubRow_one (ofU x h))
  generalize (ubRow zeroUb).toArray = ZU at *
  generalize (ubRow (ofU x h)).toArray = UR at *
  generalize (ptrRow fiveP).toArray = FR at *
  generalize hw1 : w.alloc (.cells ZU 30) = w1 at *
  go_enter Tryd.func22, Tryd.ntmps22
  go_upto_region 1 with fail
  try rw [hw1]
  clear hw1 hz
  go_wp2_with (first
    | (with_reducible refine wpList_build_run (o := ⟨some 4, _, _, _, _, _⟩) rfl 28 _ rfl #[(0, .int .u32 5), (1, .int .u64 1)] (by simp [Act.eval]) (.agg FR) (HB5.out _) ?_)
    | (with_reducible refine wpList_build_run (o := ⟨some 5, _, _, _, _, _⟩) rfl 30 _ rfl #[(0, .int .u64 (x : Int)), (1, .int .u32 16), (2, .agg FR)] (by simp [Act.eval, Act.put]) (.agg UR) (HBD.out _) ?_)
    | (with_reducible refine wpList_store_row (o := ⟨none, .store _ (.tmp 2) _, _, _, _, _⟩) rfl 30 _ _ rfl w.heap.size UR rfl rfl 30 ZU HA.out SE.out SL.out SO.out ?_))
  exact bodyPost_ret (v := .agg UR) (results_cell_row Tryd.results22 _ _ w.heap.size 30 UR (0, 0) _ rfl (setRow_heap _ w.heap.size _ UR _ _ HA.out) Tryd.underlying30 rfl SE.out) rfl ⟨rfl, ybelow_row HB.out (Nat.le_refl _) _⟩
theorem uof4 (w : World) : Calls Tryd.prog 22 #[.int .u64 4] w fun e w' => e = .returned (.agg (ubRow (ofU 4 (by decide))).toArray) ∧ Below w.heap.size w w' := uof_any 4 (by decide) w
theorem uof5 (w : World) : Calls Tryd.prog 22 #[.int .u64 5] w fun e w' => e = .returned (.agg (ubRow (ofU 5 (by decide))).toArray) ∧ Below w.heap.size w w' := uof_any 5 (by decide) w
theorem choose_both (k : List Int) (u v : UbV) (hu : mayU u = true) (hv : mayU v = true) (eu : u.tx % 2 = 0) (ev : v.tx % 2 = 1) :
    chooseU k (putU k u) (putU k v) = (if u.tx < v.tx then v else u, 0) := by
  have pu : pickU 0 (u, 0) = true := by simp [pickU, eu]
  have pv : pickU 1 (v, 0) = true := by simp [pickU, ev]
  unfold chooseU
  rw [getU_putU k u hu, getU_putU k v hv, pu, pv]
  by_cases h : u.tx < v.tx
  · rw [if_neg (show ¬ (true = true ∧ (true = true → v.tx < u.tx)) from fun q => by have := q.2 rfl; omega), if_pos rfl, if_pos h]
  · rw [if_pos (show true = true ∧ (true = true → v.tx < u.tx) from ⟨rfl, fun _ => by omega⟩), if_neg h]
def keyB10 : List Int := [107, 101, 121]
theorem bs_key (W : World) : BS (W.alloc (.cells #[.int .u8 107, .int .u8 101, .int .u8 121] 5 (3, 4))) (.slice (some ⟨W.heap.size, 0, none⟩) 3 3) keyB10 := bs_lit10 W keyB10 (3, 4) (by unfold keyB10 Byt; decide)
theorem ucheck_zero (w : World) : Calls Tryd.prog 13 #[.agg (ubRow zeroUb).toArray] w fun e w' => e = .returned (.int .i64 4) ∧ Below w.heap.size w w' := ucheck_any zeroUb w
set_option maxRecDepth 100000 in
set_option maxHeartbeats 1600000 in
theorem alive10_any (w : World) (hK : KT w) : Calls Tryd.prog 9 #[] w fun e w' => e = .returned (.bool true) ∧ Below w.heap.size w w' := by
  have hz := zero_ub
  have HK := Lib.hid hK
  have hcv := conv_const w #[.int .u8 107, .int .u8 101, .int .u8 121] 3 3
  have hbl := (Below.refl w.heap.size w).alloc (Nat.le_refl _) (.cells #[.int .u8 107, .int .u8 101, .int .u8 121] 5 (3, 4))
  have HKB := Lib.hid (bs_key w)
  have HRM := Lib.hid (room_of (some ⟨w.heap.size, 0, none⟩) 3 3 (by decide) (by decide))
  have HU4 := Lib.hid (mayU_of 4 (by decide) (by decide))
  have HU5 := Lib.hid (mayU_of 5 (by decide) (by decide))
  have HCH := Lib.hid (show chooseU keyB10 (putU keyB10 (ofU 4 (by decide))) (putU keyB10 (ofU 5 (by decide))) = (ofU 5 (by decide), 0) from choose_both keyB10 _ _ HU4.out HU5.out (by decide) (by decide))
  have HL := Lib.hid (fun u => putU_length keyB10 u)
  have HBL := Lib.hid hbl
  have SE5 := Lib.hid (size_ubA (ofU 5 (by decide)))
  have SL5 := Lib.hid (show (ubRow zeroUb).toArray.size = (ubRow (ofU 5 (by decide))).toArray.size by simp [ubRow_length])
  have SO5 := Lib.hid (ubRow_one (ofU 5 (by decide)))
  clear hK
  go_enter Tryd.func9, Tryd.ntmps9
  go_upto_region 2 with fail
  clear hcv hbl
  generalize hw1 : w.alloc (.cells #[.int .u8 107, .int .u8 101, .int .u8 121] 5 (3, 4)) = w1 at *
  obtain ⟨B, hB⟩ : ∃ B, w.heap.size = B := ⟨_, rfl⟩
  rw [hB] at HKB HRM
  try rw [hB]
  have HB := Lib.hid hB
  clear hw1 hB
  have HK1 := Lib.hid (HK.out.below HBL.out HK.out.pos)
  go_wp2_with fail
  refine (uof4 w1).mono ?_
  rintro e w2 ⟨rfl, hb2⟩
  have HP4 := Lib.hid (uput_ok keyB10 (.slice (some ⟨B, 0, none⟩) 3 3) _ w2 (HK1.out.below hb2 HK1.out.pos) (HKB.out.kept hb2) HRM.out (by decide) HU4.out)
  have HB2 := Lib.hid hb2
  clear hb2
  generalize hu4 : (ubRow (ofU 4 _)).toArray = R4 at *
  clear hu4
  go_wp2_with fail
  refine HP4.out.mono ?_
  rintro e w3 ⟨a3, c3, rfl, hc3, hm3, hs3, hb3⟩
  have HB3 := Lib.hid (HB2.out.trans (hb3.mono HB2.out.size))
  have HS3 := Lib.hid (And.intro hc3 (And.intro hm3 hs3))
  clear hc3 hm3 hs3 hb3 HP4 HB2
  go_wp2_with fail
  refine (uof5 w3).mono ?_
  rintro e w4 ⟨rfl, hb4⟩
  have HB4 := Lib.hid (HB3.out.trans (hb4.mono HB3.out.size))
  have HP5 := Lib.hid (uput_ok keyB10 (.slice (some ⟨B, 0, none⟩) 3 3) _ w4 (HK1.out.below HB4.out HK1.out.pos) (HKB.out.kept HB4.out) HRM.out (by decide) HU5.out)
  have HS4 := Lib.hid (HS3.out.2.2.kept hb4)
  clear hb4 HB3
  generalize hu5 : (ubRow (ofU 5 _)).toArray = R5 at *
  go_wp2_with fail
  refine HP5.out.mono ?_
  rintro e w5 ⟨a5, c5, rfl, hc5, hm5, hs5, hb5⟩
  have HB5 := Lib.hid (HB4.out.trans (hb5.mono HB4.out.size))
  have HC5 := Lib.hid (uchoose_any keyB10 _ _ (.slice (some ⟨B, 0, none⟩) 3 3) a3 a5 512 c3 512 c5 w5 (HK1.out.below HB5.out HK1.out.pos) (HKB.out.kept HB5.out) HRM.out (by decide) (HS4.out.kept hb5) (HL.out _) HS3.out.1 (by decide) HS3.out.2.1 hs5 (HL.out _) hc5 (by decide) hm5)
  rw [HCH.out] at HC5
  dsimp only at HC5
  rw [hu5] at HC5
  clear hc5 hm5 hs5 hb5 HP5 HB4 HS3 HS4 HKB HRM HL HU4 HU5 HCH
  go_wp2_with fail
  refine HC5.out.mono ?_
  rintro e w6 ⟨rfl, hb6⟩
  have HB6 := Lib.hid (HB5.out.trans (hb6.mono HB5.out.size))
  have HH := Lib.hid (heap_alloc_new w6 (.cells (ubRow zeroUb).toArray 30))
  clear hb6 HC5 HB5
  have HAT := Lib.hid (fun (W : World) (T : Nat) (h : W.heap[T]? = some (.cells R5 30 (0, 0))) => show W.cell? ⟨T, 0, none⟩ = some (.int .u64 5) from (ub_at (u := ofU 5 (by decide)) (by rw [hu5]; exact h)).1)
  clear hu5
  go_upto_region 5 with (first
    | (with_reducible refine wpList_store_row (o := ⟨none, .store _ (.tmp 6) _, _, _, _, _⟩) rfl 30 _ _ rfl w6.heap.size R5 rfl rfl 30 _ HH.out SE5.out SL5.out SO5.out ?_))
  have h7 := setRow_heap (w6.alloc (.cells (ubRow zeroUb).toArray 30)) w6.heap.size _ R5 _ _ HH.out
  have hb7 : Below w6.heap.size w6 ((w6.alloc (.cells (ubRow zeroUb).toArray 30)).setRow w6.heap.size R5) := ybelow_row ((Below.refl w6.heap.size w6).alloc (Nat.le_refl _) _) (Nat.le_refl _) _
  generalize (w6.alloc (.cells (ubRow zeroUb).toArray 30)).setRow w6.heap.size R5 = w7 at *
  have c0 := HAT.out w7 _ h7
  have HB7 := Lib.hid (HB6.out.trans (hb7.mono HB6.out.size))
  clear h7 hb7 HB6 HH HAT hz
  go_wp2_with fail
  refine (ucheck_zero w7).mono ?_
  rintro e w8 ⟨rfl, hb8⟩
  have HB8 := Lib.hid (HBL.out.trans ((HB7.out.trans (hb8.mono HB7.out.size)).mono HBL.out.size))
  clear hb8 HB7
  go_wp2_with fail
  go_ret
  exact ⟨rfl, HB8.out⟩
end Go.Proofs.YtocdjaenhllemaaDoor
