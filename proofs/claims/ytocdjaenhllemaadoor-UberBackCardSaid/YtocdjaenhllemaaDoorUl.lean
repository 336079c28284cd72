/-
  Ubers: bytes with their own code, as the laws make them.
-/
import Derived.Test.YtocdjaenhllemaaDoorUk
namespace Go.Proofs.YtocdjaenhllemaaDoor
set_option maxRecDepth 4000
open Go.ChangeShapes Go.WideShapes Go.ChangeAt Go.RowKit

theorem lit_u8 (W : World) : (Instr.buildSlice 22 0 #[]).run Tryd.prog W = .ok (.slice (some ⟨W.heap.size, 0, none⟩) 0 0) (W.alloc (.cells #[] 5)) := by
  kernel_rfl
/-- Some bytes, that may be looked at. -/
def Looks (w w' : World) (e : Ending) : Prop := ∃ a n c l, e = .returned (.slice a n c) ∧ BS w' (.slice a n c) l ∧ l.length = n ∧ n ≤ c ∧ n ≤ 100000 ∧ c ≤ 9223372036854775807 ∧ Below w.heap.size w w'
set_option maxRecDepth 100000 in
set_option maxHeartbeats 3200000 in
theorem usealed_any (k l : List Int) (v : Value) (a : Option Addr) (n c : Nat) (w : World) (hK : KT w) (hv : BS w v k) (hr : Room v) (hn : k.length ≤ 900000) (hl : BS w (.slice a n c) l) (hll : l.length = n) (hc : n ≤ c) (hn5 : n ≤ 100000) (hc63 : c ≤ 9223372036854775807) :
    Calls Tryd.prog 16 #[v, .slice a n c] w fun e w' => Looks w w' e := by
  by_cases h : n = 512
  · subst h
    obtain ⟨a1, _, _, e1, b1⟩ := slice_cut w a 512 c 0 480 l hl hll (by decide) (by decide) hc
    have e1 := e1 rfl
    simp only [Nat.sub_zero, List.drop_zero] at e1 b1
    rw [show ((480 : Nat) : Int) = 480 from rfl] at e1
    have hyl : (l.take 480).length = 480 := by rw [List.length_take]; omega
    have HM := Lib.hid (mac_any k (l.take 480) v (.slice a1 480 c) w hK hv hr b1 (room_of _ _ _ (by omega) hc63) (by omega) (by omega))
    have HML := Lib.hid (And.intro (macS_length k (l.take 480)) (macS_byt k (l.take 480)))
    have HYL := Lib.hid (And.intro hyl b1.byt)
    have HB1 := Lib.hid b1
    have hsl := slice_hash7
    clear hK hv hr hn hl hll hc hn5 hc63 hyl b1
    generalize macS k (l.take 480) = MC at *
    generalize l.take 480 = Y at *
    have SH := Lib.hid (size_h32 MC HML.out.1)
    have SM := Lib.hid (show (u8s (List.replicate 32 0)).size = (u8s MC).size by rw [u8s_size, u8s_size, HML.out.1]; rfl)
    go_enter Tryd.func16, Tryd.ntmps16
    go_wp2_with fail
    refine HM.out.mono ?_
    rintro e w2 ⟨rfl, hb2⟩
    have HB2 := Lib.hid hb2
    have HY2 := Lib.hid (HB1.out.kept hb2)
    clear hb2 HM HB1
    go_upto_region 4 with (first
      | (with_reducible refine wpList_store_row (o := ⟨none, .store _ (.tmp 5) _, _, _, _, _⟩) rfl 26 _ _ rfl w2.heap.size (u8s MC) rfl rfl 26 _ (heap_alloc_new w2 _) SH.out ?c1 (u8s_one _) ?_))
    case c1 => exact SM.out
    generalize hW3 : World.setRow _ w2.heap.size _ = w3
    obtain ⟨r3, z3, b3⟩ := fresh_row w2 (u8s (List.replicate 32 0)) (u8s MC) 26 w3 hW3.symm
    clear hW3 z3
    have hbsM := BS.of_arr2 (show ArrB w3 w2.heap.size 26 MC from r3) HML.out.2
    rw [HML.out.1] at hbsM
    have hb03 := HB2.out.trans (b3.mono HB2.out.size)
    have hbY := HY2.out.kept b3
    have hm1 : Below w3.heap.size w3 (w3.drew.alloc (.cells #[] 5)) := (Below.refl _ w3).drew.alloc (Nat.le_refl _) _
    have how : (w3.drew.alloc (.cells #[] 5)).ownsRow w3.heap.size 5 1 (.slice (some ⟨w3.drew.heap.size, 0, none⟩) 0 0) ([] : List Int).length (([] : List Int).map (Value.int .u8)) :=
      World.ownsRow_lit (base := w3.heap.size) (e := 5) (size := 1) w3.drew #[] 0 (Nat.le_refl _) (by decide) rfl
    obtain ⟨a5, c5, w5, hr5, hO5⟩ := append_ostep _ _ w3.heap.size _ (.slice a1 480 c) [] Y how (Below.refl _ _) (hbY.kept hm1) (by rw [HYL.out.1]; decide) hm1.size
    have hb5 : Below w3.heap.size w3 w5 := hm1.trans (hO5.touch.below hm1.size (fun g hg => by simp [Value.ownBlock] at hg; subst hg; exact Nat.le_refl _))
    obtain ⟨a6, c6, w6, hr6, hO6⟩ := append_ostep _ _ w3.heap.size _ (.slice (some ⟨w2.heap.size, 0, none⟩) 32 32) _ MC hO5.own (Below.refl _ _) (hbsM.kept hb5) (by rw [List.nil_append, HYL.out.1, HML.out.1]; decide) hb5.size
    have hb6 : Below w3.heap.size w3 w6 := hb5.trans (hO6.touch.below hb5.size (fun g hg => (hO5.own.lt g (by simpa using hg)).1))
    have ho6 := hO6.own
    rw [HYL.out.1, show ([] : List Int).length + 480 = 480 from rfl] at hr5
    rw [HYL.out.1, List.nil_append, HYL.out.1, HML.out.1, show ([] : List Int).length + 480 = 480 from rfl] at hr6
    have hby : Byt (([] ++ Y) ++ MC) := byt_app10 (by simpa using HYL.out.2) HML.out.2
    obtain ⟨a6', c6', e6, hc6, hbs6⟩ := own_bs ho6 rfl hby
    have hrm := (room_of_own ho6 _ _ _ rfl).2
    have hl6 : (([] ++ Y) ++ MC).length = 512 := by rw [List.nil_append, List.length_append, HYL.out.1, HML.out.1]
    rw [hl6] at e6 hc6 hbs6
    injection e6 with e7 e8 e9
    subst e7 e9
    have HZ := Lib.hid (show Looks w w6 (.returned (.slice a6 (480 + 32) c6)) from ⟨a6, 512, c6, _, rfl, hbs6, hl6, hc6, by decide, hrm, hb03.trans (hb6.mono hb03.size)⟩)
    have HR5 := Lib.hid hr5
    have HR6 := Lib.hid hr6
    clear r3 b3 hbsM hb03 hbY hm1 how hr5 hO5 hb5 hr6 hO6 hb6 ho6 hby hc6 hbs6 hrm hl6 e8 HB2 HY2 SH SM
    obtain ⟨T, hT⟩ : ∃ T, w2.heap.size = T := ⟨_, rfl⟩
    rw [hT] at HR6 ⊢
    clear hT
    unfold Looks at HZ
    try simp only [Act.put]
    refine wp_region_noPanic ?_
    refine wp_region_held_drew (S := fun _ => True) (by kernel_rfl) trivial (fun hHeld => ?_)
    refine wpAnyH_take (i := 1) (oi := ⟨some 15, _, _, _, _, _⟩) (v := ?_) rfl (by kernel_rfl) (by decide +kernel) (by decide +kernel) (fun _ _ _ h => h) (Or.inl ⟨by rfl, ?_⟩) (by assumption) ?_
    rotate_left 1
    · (intro w' hSw; go_simp; try with_reducible rfl)
    try simp only [Act.put, List.setIfInBounds_toArray, List.set_cons_zero, List.set_cons_succ]
    refine wpAnyH_take (i := 2) (oi := ⟨some 16, _, _, _, _, _⟩) (v := ?_) rfl (by kernel_rfl) (by decide +kernel) (by decide +kernel) (fun _ _ _ h => h) (Or.inl ⟨by rfl, ?_⟩) (by assumption) ?_
    rotate_left 1
    · (intro w' hSw; go_simp; try with_reducible rfl)
    try simp only [Act.put, List.setIfInBounds_toArray, List.set_cons_zero, List.set_cons_succ]
    refine wpAnyH_take (i := 4) (oi := ⟨some 18, _, _, _, _, _⟩) (v := ?_) rfl (by kernel_rfl) (by decide +kernel) (by decide +kernel) (fun _ _ _ h => h) (Or.inl ⟨by rfl, ?_⟩) (by assumption) ?_
    rotate_left 1
    · (intro w' hSw; go_simp; try with_reducible rfl)
    try simp only [Act.put, List.setIfInBounds_toArray, List.set_cons_zero, List.set_cons_succ]
    refine wpAnyH_ready (rs := [0]) (by decide +kernel) (by simp) ?_
    refine AllReadyH.cons rfl (fun K hK => ?_) AllReadyH.nil
    have hln := lit_u8 w3.drew
    go_simp
    refine hK.out _ _ trivial (fun hHeld => ?_)
    clear hK K hln
    try simp only [Act.put, List.setIfInBounds_toArray, List.set_cons_zero, List.set_cons_succ]
    refine wpAnyH_ready (rs := [3]) (by decide +kernel) (by simp) ?_
    refine AllReadyH.cons rfl (fun K hK => ?_) AllReadyH.nil
    rw [if_pos (by kernel_rfl)]
    refine wp_append_at (o := ⟨some 17, _, _, _, _, _⟩) (.tmp 14) (.tmp 16) 22 rfl _ _ rfl rfl _ _ HR5.out ?_
    refine hK.out _ _ trivial (fun hHeld => ?_)
    clear hK K
    try simp only [Act.put, List.setIfInBounds_toArray, List.set_cons_zero, List.set_cons_succ]
    refine wpAnyH_ready (rs := [5]) (by decide +kernel) (by simp) ?_
    refine AllReadyH.cons rfl (fun K hK => ?_) AllReadyH.nil
    rw [if_pos (by kernel_rfl)]
    refine wp_append_at (o := ⟨some 19, _, _, _, _, _⟩) (.tmp 17) (.tmp 18) 22 rfl _ _ rfl rfl _ _ HR6.out ?_
    refine hK.out _ _ trivial (fun hHeld => ?_)
    clear hK K
    try simp only [Act.put, List.setIfInBounds_toArray, List.set_cons_zero, List.set_cons_succ]
    refine wpAnyH_take (i := 6) (oi := ⟨some 4, _, _, _, _, _⟩) (v := ?_) rfl (by kernel_rfl) (by decide +kernel) (by decide +kernel) (fun _ _ _ h => h) (Or.inl ⟨by rfl, ?_⟩) (by assumption) ?_
    rotate_left 1
    · (intro w' hSw; go_simp; try with_reducible rfl)
    try simp only [Act.put, List.setIfInBounds_toArray, List.set_cons_zero, List.set_cons_succ]
    refine wpAnyH_done (by decide +kernel) ?_ _
    refine NoPanic.normal ?_
    go_wp2_with fail
    go_ret
    exact HZ.out
  · have HZ := Lib.hid (show Looks w w (.returned (.slice a n c)) from ⟨a, n, c, l, rfl, hl, hll, hc, hn5, hc63, Below.refl _ _⟩)
    have hne : ((n : Int) != 512) = true := by simp; omega
    clear hK hv hr hn hl hll hc hn5 hc63 h
    unfold Looks at HZ ⊢
    go_enter Tryd.func16, Tryd.ntmps16
    go_wp2_with fail
    go_ret
    exact HZ.out
end Go.Proofs.YtocdjaenhllemaaDoor
