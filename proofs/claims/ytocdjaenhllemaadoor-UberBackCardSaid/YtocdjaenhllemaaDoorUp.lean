/-
  Ubers: the program's Put.
-/
import Derived.Test.YtocdjaenhllemaaDoorUs
import Derived.Test.YtocdjaenhllemaaDoorMac0
namespace Go.Proofs.YtocdjaenhllemaaDoor
set_option maxRecDepth 4000
open Go.ChangeShapes Go.WideShapes Go.ChangeAt Go.RowKit

set_option maxRecDepth 100000 in
set_option maxHeartbeats 1600000 in
theorem uput_ok (k : List Int) (v : Value) (u : UbV) (w : World) (hK : KT w) (hv : BS w v k) (hr : Room v) (hn : k.length ≤ 140737488355328) (hm : mayU u = true) :
    Calls Tryd.prog 10 #[v, .agg (ubRow u).toArray] w fun e w' => ∃ a c, e = .returned (.tuple #[.slice a 512 c, .int .i64 0]) ∧ 512 ≤ c ∧ c ≤ 9223372036854775807 ∧ BS w' (.slice a 512 c) (putU k u) ∧ Below w.heap.size w w' := by
  have hb1 := (Below.refl w.heap.size w).alloc (Nat.le_refl _) (.cells (ubRow u).toArray 30)
  have hA := heap_alloc_new w (.cells (ubRow u).toArray 30)
  have hT : w.heap.size < (w.alloc (.cells (ubRow u).toArray 30)).heap.size := by simp
  have HCK := Lib.hid (fun W => ucheck_any u W)
  rw [show checkU u = 0 by unfold checkU; rw [if_pos hm]] at HCK
  have HLY := Lib.hid (fun W => ulay_any u W)
  have HMC := Lib.hid (fun (W : World) (hb : Below w.heap.size w W) (x : Value) (hx : BS W x (plainB u)) (hrx : Room x) => mac_any k (plainB u) v x W (hK.below hb hK.pos) (hv.kept hb) hr hx hrx (by omega) (by rw [plainB_length]; decide))
  have HPL := Lib.hid (And.intro (plainB_length u) (plainB_byt u))
  have HML := Lib.hid (And.intro (macS_length k (plainB u)) (macS_byt k (plainB u)))
  have HE := Lib.hid (And.intro (show putU k u = plainB u ++ macS k (plainB u) from rfl) (putU_byt k u))
  have SE := Lib.hid (size_ubA u)
  have hsl := slice_hash7
  have HB1 := Lib.hid hb1
  have HA1 := Lib.hid hA
  have HT := Lib.hid hT
  clear hb1 hA hT hv hr hn hm hK
  unfold OwnB at HLY
  rw [HPL.out.1] at HLY
  generalize putU k u = PU at *
  generalize macS k (plainB u) = MC at *
  generalize plainB u = PB at *
  generalize (ubRow u).toArray = AR at *
  generalize hw1 : w.alloc (.cells AR 30) = w1 at *
  go_enter Tryd.func10, Tryd.ntmps10
  go_upto_region 1 with fail
  try rw [hw1]
  clear hw1
  go_wp2_with (first
    | (with_reducible refine wpList_load_row (o := ⟨some 9, _, _, _, _, _⟩) rfl 30 _ rfl w.heap.size rfl 30 AR (0, 0) _ HA1.out Tryd.underlying30 rfl SE.out ?_))
  refine (HCK.out w1).mono ?_
  rintro e w2 ⟨rfl, hb2⟩
  have HA2 := Lib.hid ((hb2.block w.heap.size HT.out).trans HA1.out)
  have HB2 := Lib.hid (HB1.out.trans (hb2.mono (Nat.le_of_lt HT.out)))
  clear hb2 HA1 HB1 HT HCK
  go_wp2_with (first
    | (with_reducible refine wpList_load_row (o := ⟨some 14, _, _, _, _, _⟩) rfl 30 _ rfl w.heap.size rfl 30 AR (0, 0) _ HA2.out Tryd.underlying30 rfl SE.out ?_))
  refine (HLY.out w2).mono ?_
  rintro e w3 ⟨a3, c3, rfl, hc3, hbs3, ho3, hb3⟩
  have HB3 := Lib.hid (HB2.out.trans (hb3.mono HB2.out.size))
  have HO3 := Lib.hid (own_low10 ho3 HB2.out.size)
  have HM4 := Lib.hid (HMC.out w3 HB3.out _ hbs3 (room_of_own ho3))
  clear hbs3 ho3 hb3 HMC HB2 HA2 HLY hc3
  go_wp2_with fail
  refine HM4.out.mono ?_
  rintro e w4 ⟨rfl, hb4⟩
  have HB4 := Lib.hid (HB3.out.trans (hb4.mono HB3.out.size))
  have HO4 := Lib.hid (own_touch HO3.out (Touch.of_below (l := []) hb4) (by simp))
  have SH := Lib.hid (size_h32 MC HML.out.1)
  have SM := Lib.hid (show (u8s (List.replicate 32 0)).size = (u8s MC).size by rw [u8s_size, u8s_size, HML.out.1]; rfl)
  clear hb4 HM4 HO3 HB3
  go_upto_region 6 with (first
    | (with_reducible refine wpList_store_row (o := ⟨none, .store _ (.tmp 8) _, _, _, _, _⟩) rfl 26 _ _ rfl w4.heap.size (u8s MC) rfl rfl 26 _ (heap_alloc_new w4 _) SH.out ?c1 (u8s_one _) ?_))
  case c1 => exact SM.out
  generalize hW5 : World.setRow _ w4.heap.size _ = W5
  obtain ⟨r5, z5, b5⟩ := fresh_row w4 (u8s (List.replicate 32 0)) (u8s MC) 26 W5 hW5.symm
  clear hW5 z5
  have hbs5 := BS.of_arr2 (show ArrB W5 w4.heap.size 26 MC from r5) HML.out.2
  rw [HML.out.1] at hbs5
  obtain ⟨a6, c6, w6, hr6, hO6⟩ := append_ostep W5 W5 w.heap.size (.slice a3 480 c3) _ PB MC (by rw [HPL.out.1]; exact own_touch HO4.out (Touch.of_below (l := []) b5) (by simp)) (Below.refl _ _) hbs5 (by rw [HPL.out.1, HML.out.1]; decide) (Nat.le_trans HB4.out.size b5.size)
  rw [HPL.out.1, HML.out.1] at hr6 hO6
  obtain ⟨a6', c6', e6, hc6, hbs6⟩ := own_bs hO6.own rfl (by rw [← HE.out.1]; exact HE.out.2)
  rw [List.length_append, HPL.out.1, HML.out.1] at e6 hc6 hbs6
  injection e6 with e7 e8 e9
  subst e7 e9
  have hrm := (room_of_own hO6.own _ _ _ rfl).2
  have HBL := Lib.hid (show Below w.heap.size w w6 from by
    refine (HB4.out.trans (b5.mono HB4.out.size)).trans (hO6.touch.below (Nat.le_trans HB4.out.size b5.size) (fun g hg => ?_))
    exact (HO4.out.lt g (by simpa using hg)).1)
  have HR6 := Lib.hid hr6
  have HF6 := Lib.hid (And.intro hc6 (And.intro hrm hbs6))
  clear r5 b5 hbs5 hr6 hO6 hc6 hbs6 e8 hrm
  go_wp2_with (first
    | (at_builtin; refine wpList_append_run (o := ⟨some 21, _, _, _, _, _⟩) rfl _ _ _ _ rfl _ _ _ _ rfl rfl HR6.out ?_))
  go_ret2
  exact ⟨_, _, rfl, HF6.out.1, HF6.out.2.1, by rw [HE.out.1]; exact HF6.out.2.2, HBL.out⟩
set_option maxRecDepth 100000 in
set_option maxHeartbeats 1600000 in
theorem uput_bad (v : Value) (u : UbV) (w : World) (hm : mayU u = false) :
    Calls Tryd.prog 10 #[v, .agg (ubRow u).toArray] w fun e w' => e = .returned (.tuple #[.slice none 0 0, .int .i64 4]) ∧ Below w.heap.size w w' := by
  have hb1 := (Below.refl w.heap.size w).alloc (Nat.le_refl _) (.cells (ubRow u).toArray 30)
  have hA := heap_alloc_new w (.cells (ubRow u).toArray 30)
  have HCK := Lib.hid (fun W => ucheck_any u W)
  rw [show checkU u = 4 by unfold checkU; rw [if_neg (by rw [hm]; decide)]] at HCK
  have SE := Lib.hid (size_ubA u)
  have HB1 := Lib.hid hb1
  have HA1 := Lib.hid hA
  clear hb1 hA hm
  generalize (ubRow u).toArray = AR at *
  generalize hw1 : w.alloc (.cells AR 30) = w1 at *
  go_enter Tryd.func10, Tryd.ntmps10
  go_upto_region 1 with fail
  try rw [hw1]
  clear hw1
  go_wp2_with (first
    | (with_reducible refine wpList_load_row (o := ⟨some 9, _, _, _, _, _⟩) rfl 30 _ rfl w.heap.size rfl 30 AR (0, 0) _ HA1.out Tryd.underlying30 rfl SE.out ?_))
  refine (HCK.out w1).mono ?_
  rintro e w2 ⟨rfl, hb2⟩
  have HB2 := Lib.hid (HB1.out.trans (hb2.mono HB1.out.size))
  clear hb2 HA1 HB1 HCK
  go_wp2_with fail
  go_ret2
  exact ⟨rfl, HB2.out⟩
end Go.Proofs.YtocdjaenhllemaaDoor
