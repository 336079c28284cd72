/-
  'ShaTwice' returns true at every input, and each argument reads behind the call as it read before. Conditions: the package-level variable that the row lists starts as the program's text lays it (the card ties that).
-/
import Derived.Test.YtinkjoghdajhkaaDoorLaid
import Derived.Test.YtinkjoghdajhkaaDoorCards
import Derived.Test.YtinkjoghdajhkaaDoorTie
import Derived.Test.YtinkjoghdajhkaaDoorTwo
import Derived.Deep.DeepCutAuto
namespace Go.Proofs.YtinkjoghdajhkaaDoor.shaTwice
open Go.ChangeShapes Go.WideShapes Go.ChangeAt Go.RowKit
set_option linter.unusedVariables false


set_option maxRecDepth 100000 in
set_option maxHeartbeats 1600000 in
theorem walk (w : World) (a0 : Option Addr) (len0 cap0 : Nat) (l0 : List Int) (e0 : l0.length = len0) (b0 : BS w (.slice a0 len0 cap0) l0) (m0 : len0 ≤ cap0) (n0 : cap0 ≤ 140737488351232) (a1 : Option Addr) (len1 cap1 : Nat) (l1 : List Int) (e1 : l1.length = len1) (b1 : BS w (.slice a1 len1 cap1) l1) (m1 : len1 ≤ cap1) (n1 : cap1 ≤ 140737488351232) (hK : KT w) :
    Calls Tryd.prog 9 #[.slice a0 len0 cap0, .slice a1 len1 cap1] w fun e w' => e = .returned (.bool true) ∧ Below w.heap.size w w' := by
  have HK := Lib.hid hK
  have hpos : 0 < w.heap.size := hK.pos
  have HPOS := Lib.hid hpos
  have HB0 := Lib.hid b0
  have HB1 := Lib.hid b1
  have HE := Lib.hid (And.intro e0 e1)
  have HM := Lib.hid (And.intro m0 (And.intro m1 (And.intro n0 n1)))
  have len0I : (len0 : Int) ≤ 140737488351232 := by omega
  have len1I : (len1 : Int) ≤ 140737488351232 := by omega
  clear hK b0 b1 e0 e1 m0 m1 n0 n1 hpos
  by_cases hbig : (3000 : Int) < (len0 : Int) + (len1 : Int)
  · go_enter Tryd.func9, Tryd.ntmps9
    go_wp2_with fail
    refine (alive2_any w HK.out).mono ?_
    rintro e w1 ⟨rfl, hb1⟩
    go_wp2_with fail
    go_ret
    exact ⟨rfl, hb1⟩
  go_enter Tryd.func9, Tryd.ntmps9
  go_wp2_with fail
  refine (alive2_any w HK.out).mono ?_
  rintro e w1 ⟨rfl, hb1⟩
  have HBE1 := Lib.hid hb1
  clear hb1
  go_wp2_with fail
  refine (new_any _).mono ?_
  rintro e w2 ⟨g, rfl, hg, hgl, hb2⟩
  have HG := Lib.hid (And.intro hg (And.intro hgl hb2))
  clear hg hgl hb2
  go_wp2_with fail
  refine (new_any _).mono ?_
  rintro e w3 ⟨h, rfl, hh, hhl, hb3⟩
  have hgh : g < w2.heap.size := HG.out.1.lt
  have HT := Lib.hid (show Two w w3 g h [] [] from ⟨(HBE1.out.trans (HG.out.2.2.mono HBE1.out.size)).trans (hb3.mono (Nat.le_trans HBE1.out.size HG.out.2.2.size)), HK.out.below ((HBE1.out.trans (HG.out.2.2.mono HBE1.out.size)).trans (hb3.mono (Nat.le_trans HBE1.out.size HG.out.2.2.size))) HPOS.out, HG.out.1.below hb3 hgh, hh, Nat.le_trans HBE1.out.size HG.out.2.1, Nat.le_trans (Nat.le_trans HBE1.out.size HG.out.2.2.size) hhl, by omega⟩)
  have sumI : (len0 : Int) + (len1 : Int) ≤ 3000 := by omega
  have SUM := Lib.hid (show len0 + len1 ≤ 3000 by omega)
  clear hh hhl hb3 hgh hbig
  go_wp2_with fail
  go_loopw [26] (fun v26 wr => ∃ i : Nat, i ≤ len0 ∧ v26 = .int .i64 (i : Nat) ∧ Two w wr g h (l0.take i) []) (fun v _ => len0 - (intOf v).toNat)
  case atStart => exact ⟨0, by omega, rfl, by simpa using HT.out⟩
  case round =>
    obtain ⟨i, hi, rfl, hT⟩ := hrel
    by_cases hlt : i < len0
    · obtain ⟨a2, hs, _, _, hbs⟩ := slice_seg w a0 len0 cap0 i (i + 1) l0 HB0.out HE.out.1 (by omega) (by omega) HM.out.1
      rw [Int.natCast_add, show i + 1 - i = 1 by omega] at hs
      rw [show i + 1 - i = 1 by omega] at hbs
      have hs' : ∀ W', (Instr.slice 22 (.slice a0 len0 cap0) (some (.int .i64 (i : Int))) (some (.int .i64 ((i : Int) + 1))) none).run Tryd.prog W' = .ok (.slice a2 1 (cap0 - i)) W' := hs
      clear hs
      have hiI : (i : Int) < (len0 : Int) := by omega
      have hi0 : (0 : Int) ≤ (i : Int) := by omega
      have hw := write_any g (l0.take i) ((l0.drop i).take 1) _ wr hT.hg hT.kt (hT.pos HPOS.out).1 (hbs.kept hT.bel) (room_of _ _ _ (by have := HM.out.1; omega) (by have := HM.out.2.2.1; omega)) (off_old hbs hT.gl) (by rw [List.length_take, List.length_take, List.length_drop, HE.out.1]; have := SUM.out; omega)
      have HW := Lib.hid hw
      have HT2 := Lib.hid hT
      have HLT := Lib.hid hlt
      clear hw hbs hT hlt hi
      go_wp2_with fail
      refine HW.out.mono ?_
      rintro e w5 ⟨rfl, hr5, hg5⟩
      have e5 : l0.take i ++ (l0.drop i).take 1 = l0.take (i + 1) := by rw [← List.take_add]
      rw [e5] at hr5
      have HT5 := Lib.hid (HT2.out.left HPOS.out hg5 hr5.has)
      clear hr5 hg5 e5
      go_wp2_with fail
      go_roundw
      case rel => exact ⟨i + 1, by have := HLT.out; omega, by go_num, HT5.out⟩
      case measure => simp [intOf]; omega
    · have hge : (len0 : Int) ≤ (i : Int) := by omega
      have htk : l0.take i = l0 := List.take_of_length_le (by rw [HE.out.1]; omega)
      rw [htk] at hT
      have HT2 := Lib.hid hT
      have HS2 := Lib.hid (sum_any g l0 wr hT.hg hT.kt (by rw [HE.out.1]; have := SUM.out; omega))
      have HWR := Lib.hid hT.bel.size
      clear hT htk hlt hi
      go_wp2_with fail
      refine HS2.out.mono ?_
      rintro e w4 ⟨rfl, hb4⟩
      have HT4 := Lib.hid (HT2.out.below hb4)
      have SH0 := Lib.hid (size_h32 (hashS l0) (hashS_length l0))
      have SE := Lib.hid (show (u8s (List.replicate 32 0)).size = (u8s (hashS l0)).size by rw [u8s_size, u8s_size, hashS_length]; rfl)
      clear hb4
      go_wp2_with (first
        | (with_reducible refine wpList_store_row (o := ⟨none, .store _ (.tmp 8) _, _, _, _, _⟩) rfl 24 _ _ rfl w4.heap.size (u8s (hashS l0)) rfl rfl 24 _ (heap_alloc_new w4 _) SH0.out ?c1 (u8s_one _) ?_))
      case c1 => exact SE.out
      generalize hW5 : World.setRow _ w4.heap.size _ = W5
      obtain ⟨r5, z5, b5⟩ := fresh_row w4 (u8s (List.replicate 32 0)) (u8s (hashS l0)) 24 W5 hW5.symm
      clear hW5
      have HT5 := Lib.hid (HT4.out.below b5)
      have HX5 := Lib.hid (show ArrB W5 w4.heap.size 24 (hashS l0) from r5)
      have hx4 := HT4.out.lts
      have hwb := write_any g l0 l1 (.slice a1 len1 cap1) W5 HT5.out.hg HT5.out.kt (HT5.out.pos HPOS.out).1 (HB1.out.kept HT5.out.bel) (room_of _ _ _ HM.out.2.1 (by have := HM.out.2.2.2; omega)) (off_old HB1.out HT5.out.gl) (by rw [HE.out.1, HE.out.2]; have := SUM.out; omega)
      have HWB := Lib.hid hwb
      have HX4 := Lib.hid hx4
      have HZ5 := Lib.hid z5
      clear r5 z5 b5 hwb hx4
      refine HWB.out.mono ?_
      rintro e w6 ⟨rfl, hr6, hg6⟩
      have HT6 := Lib.hid (HT5.out.left HPOS.out hg6 hr6.has)
      have HX6 := Lib.hid (HX5.out.grown hg6 (by have := HX4.out.1; omega))
      clear hr6 hg6
      have HA6 := Lib.hid (HB0.out.kept (HT6.out.bel.trans ((Below.refl _ _).alloc HT6.out.bel.size (.cells #[] 5))))
      have HA6b := Lib.hid (HB1.out.kept (HT6.out.bel.trans ((Below.refl _ _).alloc HT6.out.bel.size (.cells #[] 5))))
      have HOW := Lib.hid (own_empty w6)
      have len0N : l0.length ≤ 3000 := by rw [HE.out.1]; have := SUM.out; omega
      have len1N : l1.length ≤ 3000 := by rw [HE.out.2]; have := SUM.out; omega
      have LN := Lib.hid (And.intro len0N len1N)
      clear len0N len1N
      go_wp2_with (first
        | (at_builtin; with_reducible refine wpList_append_BS (o := ⟨some 48, _, _, _, _, _⟩) rfl _ _ rfl w6.heap.size (.slice (some ⟨w6.heap.size, 0, none⟩) 0 0) 0 [] rfl HOW.out (.slice a0 len0 cap0) l0 rfl HA6.out (by have := LN.out.1; omega) (by simp) ?_; intro v7 w7 ho7 hg7; have HO7 := Lib.hid ho7; have HG7 := Lib.hid hg7; have HA7 := Lib.hid (HB1.out.kept ((HT6.out.bel.alloc HT6.out.bel.size _).grown hg7 (by simp; have := HT6.out.bel.size; omega) (by intro k hk; simp [Value.ownBlock] at hk; have := HT6.out.bel.size; omega))); clear ho7 hg7)
        | (at_builtin; with_reducible refine wpList_append_BS (o := ⟨some 50, _, _, _, _, _⟩) rfl _ _ rfl w6.heap.size v7 (0 + l0.length) ([] ++ l0.map (Value.int .u8)) rfl HO7.out (.slice a1 len1 cap1) l1 rfl HA7.out (by have := LN.out; omega) (by have := HG7.out.size; simp at this; omega) ?_; intro v8 w8 ho8 hg8; have HO8 := Lib.hid ho8; have HG8 := Lib.hid hg8; clear ho8 hg8))
      have b68 : Below w6.heap.size w6 w8 := (((Below.refl w6.heap.size w6).alloc (Nat.le_refl _) _).grown HG7.out (by simp) (by intro k hk; simp [Value.ownBlock] at hk; omega)).grown HG8.out (by have := HG7.out.size; simp at this; omega) (fun k hk => (HO7.out.lt k hk).1)
      obtain ⟨L, hL⟩ : ∃ L, L = l0 ++ l1 := ⟨_, rfl⟩
      have hLl : L.length = len0 + len1 := by rw [hL, List.length_append, HE.out.1, HE.out.2]
      have ho8 := HO8.out
      rw [List.nil_append, ← List.map_append, ← hL] at ho8
      have hLb : Byt L := by
        rw [hL]
        intro z hz
        rcases List.mem_append.1 hz with hz | hz
        · exact HB0.out.byt z hz
        · exact HB1.out.byt z hz
      have hT8 := HT6.out.below b68
      rw [← hL] at hT8
      have hv8 := own_bs ho8 (by rw [hL, List.length_append]; omega) hLb
      have hw9 := write_any h [] L v8 w8 hT8.hh hT8.kt (hT8.pos HPOS.out).2 hv8 (room_of_own ho8) (off_of_own ho8 HT6.out.lts.2) (by rw [hLl]; have := SUM.out; simp; omega)
      rw [List.nil_append] at hw9
      have HT8 := Lib.hid hT8
      have HW9 := Lib.hid hw9
      have HX8 := Lib.hid (HX6.out.below b68 HX6.out.lt)
      have HLL := Lib.hid (And.intro hLl hLb)
      have HL := Lib.hid hL
      clear b68 hL hLl ho8 hLb hT8 hv8 hw9
      refine HW9.out.mono ?_
      rintro e w9 ⟨rfl, hr9, hg9⟩
      have hT9 := HT8.out.right HPOS.out hg9 hr9.has
      have HT9 := Lib.hid hT9
      have HX9 := Lib.hid (HX8.out.grown hg9 (by have := HX4.out.2; omega))
      have HS9 := Lib.hid (sum_any g L w9 hT9.hg hT9.kt (by rw [HLL.out.1]; have := SUM.out; omega))
      clear hr9 hg9 hT9
      go_wp2_with fail
      refine HS9.out.mono ?_
      rintro e w10 ⟨rfl, hb10⟩
      have HT10 := Lib.hid (HT9.out.below hb10)
      have HX10 := Lib.hid (HX9.out.below hb10 HX9.out.lt)
      have SHL := Lib.hid (size_h32 (hashS L) (hashS_length L))
      have SEL := Lib.hid (show (u8s (List.replicate 32 0)).size = (u8s (hashS L)).size by rw [u8s_size, u8s_size, hashS_length]; rfl)
      clear hb10
      go_wp2_with (first
        | (with_reducible refine wpList_store_row (o := ⟨none, .store _ (.tmp 10) _, _, _, _, _⟩) rfl 24 _ _ rfl w10.heap.size (u8s (hashS L)) rfl rfl 24 _ (heap_alloc_new w10 _) SHL.out ?c2 (u8s_one _) ?_))
      case c2 => exact SEL.out
      generalize hW11 : World.setRow _ w10.heap.size _ = W11
      obtain ⟨r11, z11, b11⟩ := fresh_row w10 (u8s (List.replicate 32 0)) (u8s (hashS L)) 24 W11 hW11.symm
      clear hW11
      have HT11 := Lib.hid (HT10.out.below b11)
      have HX11 := Lib.hid (HX10.out.below b11 HX10.out.lt)
      have HY11 := Lib.hid (show ArrB W11 w10.heap.size 24 (hashS L) from r11)
      have HS11 := Lib.hid (sum_any h L W11 HT11.out.hh HT11.out.kt (by rw [HLL.out.1]; have := SUM.out; omega))
      clear r11 z11 b11
      refine HS11.out.mono ?_
      rintro e w12 ⟨rfl, hb12⟩
      have HT12 := Lib.hid (HT11.out.below hb12)
      have HX12 := Lib.hid (HX11.out.below hb12 HX11.out.lt)
      have HY12 := Lib.hid (HY11.out.below hb12 HY11.out.lt)
      clear hb12
      go_wp2_with (first
        | (with_reducible refine wpList_store_row (o := ⟨none, .store _ (.tmp 12) _, _, _, _, _⟩) rfl 24 _ _ rfl w12.heap.size (u8s (hashS L)) rfl rfl 24 _ (heap_alloc_new w12 _) SHL.out ?c3 (u8s_one _) ?_))
      case c3 => exact SEL.out
      generalize hW13 : World.setRow _ w12.heap.size _ = W13
      obtain ⟨r13, z13, b13⟩ := fresh_row w12 (u8s (List.replicate 32 0)) (u8s (hashS L)) 24 W13 hW13.symm
      clear hW13
      have HT13 := Lib.hid (HT12.out.below b13)
      have HX13 := Lib.hid (HX12.out.below b13 HX12.out.lt)
      have HY13 := Lib.hid (HY12.out.below b13 HY12.out.lt)
      have HZ13 := Lib.hid (show ArrB W13 w12.heap.size 24 (hashS L) from r13)
      clear r13 z13 b13
      generalize w4.heap.size = bx at *
      generalize w10.heap.size = by' at *
      generalize w12.heap.size = bz at *
      have hS : ∀ W : World, Below W13.heap.size W13 W → (W.rangeAt bx 0 (u8s (hashS l0)).toList ∧ W.rangeAt by' 0 (u8s (hashS L)).toList ∧ W.rangeAt bz 0 (u8s (hashS L)).toList) := fun W hb =>
        ⟨(HX13.out.below hb HX13.out.lt).range, (HY13.out.below hb HY13.out.lt).range, (HZ13.out.below hb HZ13.out.lt).range⟩
      have HS := Lib.hid hS
      have HSD := Lib.hid (show (W13.drew.rangeAt bx 0 (u8s (hashS l0)).toList ∧ W13.drew.rangeAt by' 0 (u8s (hashS L)).toList ∧ W13.drew.rangeAt bz 0 (u8s (hashS L)).toList) from hS _ (Below.refl _ W13).drew)
      have hu := Tryd.underlying24
      have hiX : (Tryd.prog.info? 24).map (·.size) = some (u8s (hashS l0)).toList.length := by rw [info_h32, Array.length_toList, u8s_size, hashS_length]
      have hiY : (Tryd.prog.info? 24).map (·.size) = some (u8s (hashS L)).toList.length := by rw [info_h32, Array.length_toList, u8s_size, hashS_length]
      have heX := eq_hash_same (hashS l0) (hashS_length _) (hashS_byt _)
      have heY := eq_hash_same (hashS L) (hashS_length _) (hashS_byt _)
      have hadd : IntKind.i64.wrap ((len0 : Int) + (len1 : Int)) = (len0 : Int) + (len1 : Int) := IntWalk.i64_in _ (by omega)
      have hsc := shasum_any l0 (.slice a0 len0 cap0) W13.drew (show KT W13.drew from HT13.out.kt) (HB0.out.kept (HT13.out.bel.drew)) (room_of _ _ _ HM.out.1 (by have := HM.out.2.2.1; omega)) (by rw [HE.out.1]; have := SUM.out; omega)
      have SUMC := Lib.hid hsc
      have hlg : ∀ W : World, Below W13.heap.size W13 W → Calls Tryd.prog 20 #[.pointer (some ⟨g, 0, none⟩)] W fun e w' => e = .returned (.int .i64 ((len0 : Int) + (len1 : Int))) ∧ w' = W := fun W hb => by
        have := len_any g L W (HT13.out.hg.below hb HT13.out.lts.1)
        rwa [HLL.out.1, Int.natCast_add] at this
      have hlh : ∀ W : World, Below W13.heap.size W13 W → Calls Tryd.prog 20 #[.pointer (some ⟨h, 0, none⟩)] W fun e w' => e = .returned (.int .i64 ((len0 : Int) + (len1 : Int))) ∧ w' = W := fun W hb => by
        have := len_any h L W (HT13.out.hh.below hb HT13.out.lts.2)
        rwa [HLL.out.1, Int.natCast_add] at this
      have LENG := Lib.hid hlg
      have LENH := Lib.hid hlh
      clear hS hsc hlg hlh
      refine wp_region_noPanic ?_
      refine wp_region_held_drew (S := fun w' => w'.rangeAt bx 0 (u8s (hashS l0)).toList ∧ w'.rangeAt by' 0 (u8s (hashS L)).toList ∧ w'.rangeAt bz 0 (u8s (hashS L)).toList) (by kernel_rfl) HSD.out (fun hHeld => ?_)
      refine wpAnyH_take (i := 0) (oi := ⟨some 62, _, _, _, _, _⟩) (v := ?_) rfl (by kernel_rfl) (by decide +kernel) (by decide +kernel) (fun _ _ _ h => h) (Or.inl ⟨by rfl, ?_⟩) (by assumption) ?_
      rotate_left 1
      · (intro w' hSw; go_simp; try with_reducible rfl)
      try simp only [Act.put, List.setIfInBounds_toArray, List.set_cons_zero, List.set_cons_succ]
      refine wpAnyH_take (i := 1) (oi := ⟨some 63, _, _, _, _, _⟩) (v := ?_) rfl (by kernel_rfl) (by decide +kernel) (by decide +kernel) (fun _ _ _ h => h) (Or.inl ⟨by rfl, ?_⟩) (by assumption) ?_
      rotate_left 1
      · (intro w' hSw; go_simp; try with_reducible rfl)
      try simp only [Act.put, List.setIfInBounds_toArray, List.set_cons_zero, List.set_cons_succ]
      refine wpAnyH_take (i := 2) (oi := ⟨some 64, _, _, _, _, _⟩) (v := ?_) rfl (by kernel_rfl) (by decide +kernel) (by decide +kernel) (fun _ _ _ h => h) (Or.inl ⟨by rfl, ?_⟩) (by assumption) ?_
      rotate_left 1
      · (intro w' hSw; go_simp; try with_reducible rfl)
      try simp only [Act.put, List.setIfInBounds_toArray, List.set_cons_zero, List.set_cons_succ]
      refine wpAnyH_take (i := 3) (oi := ⟨some 65, _, _, _, _, _⟩) (v := ?_) rfl (by kernel_rfl) (by decide +kernel) (by decide +kernel) (fun _ _ _ h => h) (Or.inl ⟨by rfl, ?_⟩) (by assumption) ?_
      rotate_left 1
      · (intro w' hSw; go_simp; try with_reducible rfl)
      try simp only [Act.put, List.setIfInBounds_toArray, List.set_cons_zero, List.set_cons_succ]
      refine wpAnyH_take (i := 4) (oi := ⟨some 66, _, _, _, _, _⟩) (v := ?_) rfl (by kernel_rfl) (by decide +kernel) (by decide +kernel) (fun _ _ _ h => h) (Or.inl ⟨by rfl, ?_⟩) (by assumption) ?_
      rotate_left 1
      · (intro w' hSw; go_simp; try with_reducible rfl)
      try simp only [Act.put, List.setIfInBounds_toArray, List.set_cons_zero, List.set_cons_succ]
      refine wpAnyH_take (i := 5) (oi := ⟨some 67, _, _, _, _, _⟩) (v := ?_) rfl (by kernel_rfl) (by decide +kernel) (by decide +kernel) (fun _ _ _ h => h) (Or.inl ⟨by rfl, ?_⟩) (by assumption) ?_
      rotate_left 1
      · (intro w' hSw; go_simp; try with_reducible rfl)
      try simp only [Act.put, List.setIfInBounds_toArray, List.set_cons_zero, List.set_cons_succ]
      refine wpAnyH_take (i := 6) (oi := ⟨some 68, _, _, _, _, _⟩) (v := ?_) rfl (by kernel_rfl) (by decide +kernel) (by decide +kernel) (fun _ _ _ h => h) (Or.inl ⟨by rfl, ?_⟩) (by assumption) ?_
      rotate_left 1
      · (intro w' hSw; go_simp; try with_reducible rfl)
      try simp only [Act.put, List.setIfInBounds_toArray, List.set_cons_zero, List.set_cons_succ]
      refine wpAnyH_take (i := 7) (oi := ⟨some 69, _, _, _, _, _⟩) (v := ?_) rfl (by kernel_rfl) (by decide +kernel) (by decide +kernel) (fun _ _ _ h => h) (Or.inl ⟨by rfl, ?_⟩) (by assumption) ?_
      rotate_left 1
      · (intro w' hSw; go_simp; try with_reducible rfl)
      try simp only [Act.put, List.setIfInBounds_toArray, List.set_cons_zero, List.set_cons_succ]
      refine wpAnyH_take (i := 8) (oi := ⟨some 70, _, _, _, _, _⟩) (v := ?_) rfl (by kernel_rfl) (by decide +kernel) (by decide +kernel) (fun _ _ _ h => h) (Or.inl ⟨by rfl, ?_⟩) (by assumption) ?_
      rotate_left 1
      · (intro w' hSw; go_simp; try with_reducible rfl)
      try simp only [Act.put, List.setIfInBounds_toArray, List.set_cons_zero, List.set_cons_succ]
      refine wpAnyH_take (i := 9) (oi := ⟨some 71, _, _, _, _, _⟩) (v := ?_) rfl (by kernel_rfl) (by decide +kernel) (by decide +kernel) (fun _ _ _ h => h) (Or.inl ⟨by rfl, ?_⟩) (by assumption) ?_
      rotate_left 1
      · (intro w' hSw; go_simp; try with_reducible rfl)
      try simp only [Act.put, List.setIfInBounds_toArray, List.set_cons_zero, List.set_cons_succ]
      refine wpAnyH_take (i := 10) (oi := ⟨some 72, _, _, _, _, _⟩) (v := ?_) rfl (by kernel_rfl) (by decide +kernel) (by decide +kernel) (fun _ _ _ h => h) (Or.inl ⟨by rfl, ?_⟩) (by assumption) ?_
      rotate_left 1
      · (intro w' hSw; go_simp; try with_reducible rfl)
      try simp only [Act.put, List.setIfInBounds_toArray, List.set_cons_zero, List.set_cons_succ]
      refine wpAnyH_take (i := 11) (oi := ⟨some 73, _, _, _, _, _⟩) rfl (by kernel_rfl) (by decide +kernel) (by decide +kernel) (fun _ _ _ h => h) (yieldsIf_load_mid (by rfl) _ _ rfl (bx) 0 rfl (u8s (hashS l0)).toList _ (fun w' h => h.1) hu rfl hiX) (by assumption) ?_
      try simp only [Act.put, List.setIfInBounds_toArray, List.set_cons_zero, List.set_cons_succ, Array.toArray_toList]
      refine wpAnyH_take (i := 12) (oi := ⟨some 74, _, _, _, _, _⟩) (v := ?_) rfl (by kernel_rfl) (by decide +kernel) (by decide +kernel) (fun _ _ _ h => h) (Or.inl ⟨by rfl, ?_⟩) (by assumption) ?_
      rotate_left 1
      · (intro w' hSw; go_simp; try with_reducible rfl)
      try simp only [Act.put, List.setIfInBounds_toArray, List.set_cons_zero, List.set_cons_succ]
      refine wpAnyH_ready (rs := [13]) (by decide +kernel) (by simp) ?_
      refine AllReadyH.cons rfl (fun K hK => ?_) AllReadyH.nil
      go_simp
      go_at_call 11
      refine SUMC.out.mono ?_
      rintro e w14 ⟨rfl, hb14⟩
      have Q14 := Lib.hid ((Below.refl W13.heap.size W13).drew.trans hb14)
      clear hb14
      go_wp2_with fail
      refine hK.out _ _ (HS.out _ Q14.out) (fun hHeld => ?_)
      clear hK K
      try simp only [Act.put, List.setIfInBounds_toArray, List.set_cons_zero, List.set_cons_succ]
      refine wpAnyH_take (i := 14) (oi := ⟨some 76, _, _, _, _, _⟩) (v := ?_) rfl (by kernel_rfl) (by decide +kernel) (by decide +kernel) (fun _ _ _ h => h) (Or.inl ⟨by rfl, ?_⟩) (by assumption) ?_
      rotate_left 1
      · (intro w' hSw; go_simp; try with_reducible rfl)
      try simp only [Act.put, List.setIfInBounds_toArray, List.set_cons_zero, List.set_cons_succ]
      refine wpAnyH_take (i := 15) (oi := ⟨some 77, _, _, _, _, _⟩) (v := ?_) rfl (by kernel_rfl) (by decide +kernel) (by decide +kernel) (fun _ _ _ h => h) (Or.inl ⟨by rfl, ?_⟩) (by assumption) ?_
      rotate_left 1
      · (intro w' hSw; go_simp; try with_reducible rfl)
      try simp only [Act.put, List.setIfInBounds_toArray, List.set_cons_zero, List.set_cons_succ]
      refine wpAnyH_take (i := 16) (oi := ⟨some 78, _, _, _, _, _⟩) (v := ?_) rfl (by kernel_rfl) (by decide +kernel) (by decide +kernel) (fun _ _ _ h => h) (Or.inl ⟨by rfl, ?_⟩) (by assumption) ?_
      rotate_left 1
      · (intro w' hSw; go_simp; try with_reducible rfl)
      try simp only [Act.put, List.setIfInBounds_toArray, List.set_cons_zero, List.set_cons_succ]
      refine wpAnyH_take (i := 17) (oi := ⟨some 79, _, _, _, _, _⟩) rfl (by kernel_rfl) (by decide +kernel) (by decide +kernel) (fun _ _ _ h => h) (yieldsIf_load_mid (by rfl) _ _ rfl (by') 0 rfl (u8s (hashS L)).toList _ (fun w' h => h.2.1) hu rfl hiY) (by assumption) ?_
      try simp only [Act.put, List.setIfInBounds_toArray, List.set_cons_zero, List.set_cons_succ, Array.toArray_toList]
      refine wpAnyH_take (i := 18) (oi := ⟨some 80, _, _, _, _, _⟩) rfl (by kernel_rfl) (by decide +kernel) (by decide +kernel) (fun _ _ _ h => h) (yieldsIf_load_mid (by rfl) _ _ rfl (bz) 0 rfl (u8s (hashS L)).toList _ (fun w' h => h.2.2) hu rfl hiY) (by assumption) ?_
      try simp only [Act.put, List.setIfInBounds_toArray, List.set_cons_zero, List.set_cons_succ, Array.toArray_toList]
      refine wpAnyH_take (i := 19) (oi := ⟨some 81, _, _, _, _, _⟩) (v := ?_) rfl (by kernel_rfl) (by decide +kernel) (by decide +kernel) (fun _ _ _ h => h) (Or.inl ⟨by rfl, ?_⟩) (by assumption) ?_
      rotate_left 1
      · (intro w' hSw; go_simp; try with_reducible rfl)
      try simp only [Act.put, List.setIfInBounds_toArray, List.set_cons_zero, List.set_cons_succ]
      refine wpAnyH_take (i := 20) (oi := ⟨some 82, _, _, _, _, _⟩) (v := ?_) rfl (by kernel_rfl) (by decide +kernel) (by decide +kernel) (fun _ _ _ h => h) (Or.inl ⟨by rfl, ?_⟩) (by assumption) ?_
      rotate_left 1
      · (intro w' hSw; go_simp; try with_reducible rfl)
      try simp only [Act.put, List.setIfInBounds_toArray, List.set_cons_zero, List.set_cons_succ]
      refine wpAnyH_take (i := 21) (oi := ⟨some 83, _, _, _, _, _⟩) (v := ?_) rfl (by kernel_rfl) (by decide +kernel) (by decide +kernel) (fun _ _ _ h => h) (Or.inl ⟨by rfl, ?_⟩) (by assumption) ?_
      rotate_left 1
      · (intro w' hSw; go_simp; try with_reducible rfl)
      try simp only [Act.put, List.setIfInBounds_toArray, List.set_cons_zero, List.set_cons_succ]
      refine wpAnyH_take (i := 22) (oi := ⟨some 84, _, _, _, _, _⟩) (v := ?_) rfl (by kernel_rfl) (by decide +kernel) (by decide +kernel) (fun _ _ _ h => h) (Or.inl ⟨by rfl, ?_⟩) (by assumption) ?_
      rotate_left 1
      · (intro w' hSw; go_simp; try with_reducible rfl)
      try simp only [Act.put, List.setIfInBounds_toArray, List.set_cons_zero, List.set_cons_succ]
      refine wpAnyH_take (i := 24) (oi := ⟨some 86, _, _, _, _, _⟩) (v := ?_) rfl (by kernel_rfl) (by decide +kernel) (by decide +kernel) (fun _ _ _ h => h) (Or.inl ⟨by rfl, ?_⟩) (by assumption) ?_
      rotate_left 1
      · (intro w' hSw; go_simp; try with_reducible rfl)
      try simp only [Act.put, List.setIfInBounds_toArray, List.set_cons_zero, List.set_cons_succ]
      refine wpAnyH_ready (rs := [23]) (by decide +kernel) (by simp) ?_
      refine AllReadyH.cons rfl (fun K hK => ?_) AllReadyH.nil
      go_simp
      go_at_call 20
      refine (LENG.out _ Q14.out).mono ?_
      rintro e w15 ⟨rfl, rfl⟩
      go_wp2_with fail
      refine hK.out _ _ (HS.out _ Q14.out) (fun hHeld => ?_)
      clear hK K
      try simp only [Act.put, List.setIfInBounds_toArray, List.set_cons_zero, List.set_cons_succ]
      refine wpAnyH_ready (rs := [25]) (by decide +kernel) (by simp) ?_
      refine AllReadyH.cons rfl (fun K hK => ?_) AllReadyH.nil
      go_simp
      go_at_call 20
      refine (LENH.out _ Q14.out).mono ?_
      rintro e w15 ⟨rfl, rfl⟩
      go_wp2_with fail
      refine hK.out _ _ (HS.out _ Q14.out) (fun hHeld => ?_)
      clear hK K
      try simp only [Act.put, List.setIfInBounds_toArray, List.set_cons_zero, List.set_cons_succ]
      refine wpAnyH_take (i := 26) (oi := ⟨some 88, _, _, _, _, _⟩) (v := ?_) rfl (by kernel_rfl) (by decide +kernel) (by decide +kernel) (fun _ _ _ h => h) (Or.inl ⟨by rfl, ?_⟩) (by assumption) ?_
      rotate_left 1
      · (intro w' hSw; go_simp; try with_reducible rfl)
      try simp only [Act.put, List.setIfInBounds_toArray, List.set_cons_zero, List.set_cons_succ]
      refine wpAnyH_take (i := 27) (oi := ⟨some 89, _, _, _, _, _⟩) (v := ?_) rfl (by kernel_rfl) (by decide +kernel) (by decide +kernel) (fun _ _ _ h => h) (Or.inl ⟨by rfl, ?_⟩) (by assumption) ?_
      rotate_left 1
      · (intro w' hSw; go_simp; try with_reducible rfl)
      try simp only [Act.put, List.setIfInBounds_toArray, List.set_cons_zero, List.set_cons_succ]
      refine wpAnyH_take (i := 28) (oi := ⟨some 90, _, _, _, _, _⟩) (v := ?_) rfl (by kernel_rfl) (by decide +kernel) (by decide +kernel) (fun _ _ _ h => h) (Or.inl ⟨by rfl, ?_⟩) (by assumption) ?_
      rotate_left 1
      · (intro w' hSw; go_simp; try with_reducible rfl)
      try simp only [Act.put, List.setIfInBounds_toArray, List.set_cons_zero, List.set_cons_succ]
      refine wpAnyH_take (i := 29) (oi := ⟨some 91, _, _, _, _, _⟩) (v := ?_) rfl (by kernel_rfl) (by decide +kernel) (by decide +kernel) (fun _ _ _ h => h) (Or.inl ⟨by rfl, ?_⟩) (by assumption) ?_
      rotate_left 1
      · (intro w' hSw; go_simp; try with_reducible rfl)
      try simp only [Act.put, List.setIfInBounds_toArray, List.set_cons_zero, List.set_cons_succ]
      refine wpAnyH_take (i := 31) (oi := ⟨some 93, _, _, _, _, _⟩) (v := ?_) rfl (by kernel_rfl) (by decide +kernel) (by decide +kernel) (fun _ _ _ h => h) (Or.inl ⟨by rfl, ?_⟩) (by assumption) ?_
      rotate_left 1
      · (intro w' hSw; go_simp; try with_reducible rfl)
      try simp only [Act.put, List.setIfInBounds_toArray, List.set_cons_zero, List.set_cons_succ]
      refine wpAnyH_take (i := 32) (oi := ⟨some 94, _, _, _, _, _⟩) (v := ?_) rfl (by kernel_rfl) (by decide +kernel) (by decide +kernel) (fun _ _ _ h => h) (Or.inl ⟨by rfl, ?_⟩) (by assumption) ?_
      rotate_left 1
      · (intro w' hSw; go_simp; try with_reducible rfl)
      try simp only [Act.put, List.setIfInBounds_toArray, List.set_cons_zero, List.set_cons_succ]
      refine wpAnyH_take (i := 33) (oi := ⟨some 95, _, _, _, _, _⟩) (v := ?_) rfl (by kernel_rfl) (by decide +kernel) (by decide +kernel) (fun _ _ _ h => h) (Or.inl ⟨by rfl, ?_⟩) (by assumption) ?_
      rotate_left 1
      · (intro w' hSw; go_simp; try with_reducible rfl)
      try simp only [Act.put, List.setIfInBounds_toArray, List.set_cons_zero, List.set_cons_succ]
      refine wpAnyH_take (i := 34) (oi := ⟨some 96, _, _, _, _, _⟩) (v := ?_) rfl (by kernel_rfl) (by decide +kernel) (by decide +kernel) (fun _ _ _ h => h) (Or.inl ⟨by rfl, ?_⟩) (by assumption) ?_
      rotate_left 1
      · (intro w' hSw; go_simp; try with_reducible rfl)
      try simp only [Act.put, List.setIfInBounds_toArray, List.set_cons_zero, List.set_cons_succ]
      refine wpAnyH_take (i := 35) (oi := ⟨some 97, _, _, _, _, _⟩) (v := ?_) rfl (by kernel_rfl) (by decide +kernel) (by decide +kernel) (fun _ _ _ h => h) (Or.inl ⟨by rfl, ?_⟩) (by assumption) ?_
      rotate_left 1
      · (intro w' hSw; go_simp; try with_reducible rfl)
      try simp only [Act.put, List.setIfInBounds_toArray, List.set_cons_zero, List.set_cons_succ]
      refine wpAnyH_ready (rs := [30]) (by decide +kernel) (by simp) ?_
      refine AllReadyH.cons rfl (fun K hK => ?_) AllReadyH.nil
      go_simp
      go_at_call 20
      refine (LENG.out _ Q14.out).mono ?_
      rintro e w15 ⟨rfl, rfl⟩
      go_wp2_with fail
      refine hK.out _ _ (HS.out _ Q14.out) (fun hHeld => ?_)
      clear hK K
      try simp only [Act.put, List.setIfInBounds_toArray, List.set_cons_zero, List.set_cons_succ]
      refine wpAnyH_take (i := 36) (oi := ⟨some 98, _, _, _, _, _⟩) (v := ?_) rfl (by kernel_rfl) (by decide +kernel) (by decide +kernel) (fun _ _ _ h => h) (Or.inl ⟨by rfl, ?_⟩) (by assumption) ?_
      rotate_left 1
      · (intro w' hSw; go_simp; try with_reducible rfl)
      try simp only [Act.put, List.setIfInBounds_toArray, List.set_cons_zero, List.set_cons_succ]
      refine wpAnyH_take (i := 37) (oi := ⟨some 99, _, _, _, _, _⟩) (v := ?_) rfl (by kernel_rfl) (by decide +kernel) (by decide +kernel) (fun _ _ _ h => h) (Or.inl ⟨by rfl, ?_⟩) (by assumption) ?_
      rotate_left 1
      · (intro w' hSw; go_simp; try with_reducible rfl)
      try simp only [Act.put, List.setIfInBounds_toArray, List.set_cons_zero, List.set_cons_succ]
      refine wpAnyH_take (i := 38) (oi := ⟨some 4, _, _, _, _, _⟩) (v := ?_) rfl (by kernel_rfl) (by decide +kernel) (by decide +kernel) (fun _ _ _ h => h) (Or.inl ⟨by rfl, ?_⟩) (by assumption) ?_
      rotate_left 1
      · (intro w' hSw; go_simp; try with_reducible rfl)
      try simp only [Act.put, List.setIfInBounds_toArray, List.set_cons_zero, List.set_cons_succ]
      refine wpAnyH_done (by decide +kernel) ?_ _
      refine NoPanic.normal ?_
      go_wp2_with fail
      go_ret
      exact ⟨rfl, HT13.out.bel.trans (Q14.out.mono HT13.out.bel.size)⟩
set_option maxRecDepth 100000 in
theorem lifted (os : Os) (started : os.Started) (H : Type) (enc : TypeId × Value → H) :
    ReturnsInHanded {} Tryd.checked os 9 .any (fun w args => (Rows.shaTwiceSpec.pre enc Tryd.prog Tryd.f9 [] false w args ∧ laidMetH Tryd.prog [("banyan/sha.roundNumbers", Rows.laid_banyan_sha_roundNumbers)] w) ∧ sizedMet enc Tryd.prog Tryd.f9 (OpenSpec.ofChange Rows.shaTwiceSpec) false w args)
      (Rows.shaTwiceSpec.post enc Tryd.prog Tryd.f9 false true false false) := by
  refine returnsInHanded_of_change_and (C := Tryd.checked) (X := fun w _ => laidMetH Tryd.prog [("banyan/sha.roundNumbers", Rows.laid_banyan_sha_roundNumbers)] w) (fun _ _ _ hh h => h.of_heap hh) own started (by kernel_rfl) Tryd.func9
    (ChangeSpec.witness_shaped (enc := enc) (C := Tryd.checked) (os := os) (X := fun w _ => laidMetH Tryd.prog [("banyan/sha.roundNumbers", Rows.laid_banyan_sha_roundNumbers)] w) false (World.doorLaid Tryd.prog 400 os) #[.slice none 0 0, .slice none 0 0] 8 rfl (World.shaped_of_RefB (by kernel_rfl) (by kernel_rfl)) (by kernel_rfl) (by kernel_rfl) (by kernel_rfl) (door_met os _)) ?_
  intro W base args ds gs before hval0 hW _ hsz0 hL _
  have hval : ∀ (j : Nat) t v, Tryd.f9.params[j]? = some t → args[j]? = some v → Value.okWide Tryd.prog W .any base t v := hval0
  have hsz : (DataW.weightsEach Tryd.prog (Tryd.f9.params.toList ++ Rows.shaTwiceSpec.plain.varTypes Tryd.prog) (ds ++ gs)).all (· ≤ reachBytes) = true := hsz0
  clear hsz0
  have hW' := hW
  obtain ⟨p, q, hA0, hV, rfl, hfz, hnd⟩ := hW
  have hA : DataW.TrodAll enc Tryd.prog W 0 (fun _ => true) true Tryd.f9.params.toList args.toList ds p := hA0
  rw [Tryd.params9] at hA hval hsz
  obtain ⟨v0, vs0, d0, ds0, p0, q0, hargs, rfl, rfl, h0, r0⟩ := trodAll_cons hA
  obtain ⟨v1, vs1, d1, ds1, p1, q1, rfl, rfl, rfl, h1, r1⟩ := trodAll_cons r0
  obtain ⟨rfl, rfl, rfl⟩ := trodAll_nil r1
  obtain rfl : args = #[v0, v1] := by cases args; simp_all
  obtain ⟨rfl, rfl⟩ := trodVars_none hV
  have k0 := h0
  have lt0 : ∀ x ∈ p0, x.block < W.heap.size := by obtain ⟨m, hm⟩ := k0; exact DataW.trod_lt m _ _ _ hm
  have k1 := h1
  have lt1 : ∀ x ∈ p1, x.block < W.heap.size := by obtain ⟨m, hm⟩ := k1; exact DataW.trod_lt m _ _ _ hm
  obtain ⟨a0, len0, cap0, l0, rfl, e0, b0, m0, n0⟩ := open_bs (hval 0 22 v0 rfl rfl) h0 (fun elems spare hd => sized_slice hsz (j := 0) (t := 22) (e := 5) rfl (by rw [hd]; rfl) Tryd.underlying22)
  obtain ⟨a1, len1, cap1, l1, rfl, e1, b1, m1, n1⟩ := open_bs (hval 1 22 v1 rfl rfl) h1 (fun elems spare hd => sized_slice hsz (j := 1) (t := 22) (e := 5) rfl (by rw [hd]; rfl) Tryd.underlying22)
  have hK := of_laid hL
  clear hA0 hval0
  refine (walk W a0 len0 cap0 l0 e0 b0 m0 n0 a1 len1 cap1 l1 e1 b1 m1 n1 hK).mono fun e W' ⟨he, bel⟩ => ?_
  subst he
  exact ⟨_, rfl, _, _, _, [], _, [], hW', trodAll_mk1 (shut_bool Tryd.underlying4 _), (trodAll_cons_mk (Below.trod laidOut (by kernel_rfl) (of_decide_eq_true (by kernel_rfl)) k0 bel lt0) (trodAll_cons_mk (Below.trod laidOut (by kernel_rfl) (of_decide_eq_true (by kernel_rfl)) k1 bel lt1) trodAll_mk0)), rfl, bel.frame _, fun h => by cases h⟩

theorem over : Rows.ShaTwiceSaid :=
  OpenClaim.holds_of_wide 9 Tryd.f9 rfl rfl rfl rfl rfl rfl rfl ⟨rfl, rfl, rfl, rfl, rfl⟩ rfl rfl rfl rfl rfl (by kernel_rfl) Tryd.func9 (by kernel_rfl)
    (of_decide_eq_true (by kernel_rfl)) (by unfold Func.isWrapper; first | (rw [if_pos (by decide +kernel)]; kernel_rfl) | (rw [if_neg (by decide +kernel)]; exact ⟨rfl, rfl⟩))
    (fun os started H enc _ => lifted os started H enc)

/-- The statement. -/
theorem proved : Rows.ShaTwiceCardSaid :=
  Claim7.holds_tied_plain_at .later [] [.data] true (true, "698d5c1e6826afa017c479af1af08b78f97d30d96166054830822b4b50163390") false
    over (fun _ h => by cases h) (by kernel_rfl) (fun _ h => by cases h) shaTwice_row_tie rfl ⟨rfl, rfl⟩ (by kernel_rfl) rfl
    (fun f fn hf hfn => by
      obtain rfl : f = 9 := Option.some.inj ((show Tryd.prog.funcNamed "banyan/banyanlaw02.ShaTwice" = some 9 by kernel_rfl).symm.trans hf) |>.symm
      obtain rfl : fn = Tryd.f9 := (Option.some.inj (Tryd.func9.symm.trans hfn)).symm
      exact ⟨by kernel_rfl, fun j t ht => by
        rw [Tryd.params9] at ht
        have hm : t ∈ [22, 22] := by simpa using Array.mem_of_getElem? ht
        have hall : ([22, 22].all fun u => !Tryd.prog.wantsStandIn u) = true := by kernel_rfl
        exact (show Tryd.prog.wantsStandIn t = false by simpa using List.all_eq_true.1 hall t hm)⟩)
    (by kernel_rfl)
#print axioms proved
end Go.Proofs.YtinkjoghdajhkaaDoor.shaTwice
