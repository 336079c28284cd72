/-
  'MacStays' returns true at every input, and each argument reads behind the call as it read before. Conditions: the package-level variable that the row lists starts as the program's text lays it (the card ties that).
-/
import Derived.Test.YtpmeiadnikenmaaDoorLaid
import Derived.Test.YtpmeiadnikenmaaDoorCards
import Derived.Test.YtpmeiadnikenmaaDoorTie
import Derived.Test.YtpmeiadnikenmaaDoorZeros
import Derived.Deep.DeepCutAuto
namespace Go.Proofs.YtpmeiadnikenmaaDoor.macStays
open Go.ChangeShapes Go.WideShapes Go.ChangeAt Go.RowKit
set_option linter.unusedVariables false

theorem txt_str (l : List Int) (h : Byt l) : txt (strOfNums l) = l := by
  unfold txt
  rw [strOfNums_data, List.map_map]
  conv => rhs; rw [← List.map_id l]
  apply List.map_congr_left
  intro z hz
  have := h z hz
  simp
  omega

set_option maxRecDepth 100000 in
set_option maxHeartbeats 1600000 in
theorem walk (w : World) (a0 : Option Addr) (len0 cap0 : Nat) (l0 : List Int) (e0 : l0.length = len0) (b0 : BS w (.slice a0 len0 cap0) l0) (m0 : len0 ≤ cap0) (n0 : cap0 ≤ 140737488351232) (a1 : Option Addr) (len1 cap1 : Nat) (l1 : List Int) (e1 : l1.length = len1) (b1 : BS w (.slice a1 len1 cap1) l1) (m1 : len1 ≤ cap1) (n1 : cap1 ≤ 140737488351232) (hK : KT w) :
    Calls Tryd.prog 10 #[.slice a0 len0 cap0, .slice a1 len1 cap1] w fun e w' => e = .returned (.bool true) ∧ Below w.heap.size w w' := by
  have HK := Lib.hid hK
  have HPOS := Lib.hid hK.pos
  have HB0 := Lib.hid b0
  have HB1 := Lib.hid b1
  have HE := Lib.hid (And.intro e0 e1)
  have HM := Lib.hid (And.intro m0 (And.intro m1 (And.intro n0 n1)))
  have len0I : (len0 : Int) ≤ 140737488351232 := by omega
  have len1I : (len1 : Int) ≤ 140737488351232 := by omega
  clear hK b0 b1 e0 e1 m0 m1 n0 n1
  by_cases hbig : (3000 : Int) < (len0 : Int) + (len1 : Int)
  · go_enter Tryd.func10, Tryd.ntmps10
    go_wp2_with fail
    refine (alive3_any w HK.out).mono ?_
    rintro e w1 ⟨rfl, hb1⟩
    go_wp2_with fail
    go_ret
    exact ⟨rfl, hb1⟩
  have hle : (len0 : Int) + (len1 : Int) ≤ 3000 := by omega
  have HLE := Lib.hid (show len0 + len1 ≤ 3000 by omega)
  clear hbig
  go_enter Tryd.func10, Tryd.ntmps10
  go_wp2_with fail
  refine (alive3_any w HK.out).mono ?_
  rintro e w1 ⟨rfl, hb1⟩
  have HBE1 := Lib.hid hb1
  have hne := own_empty w1
  have hb2 := (Below.refl w1.heap.size w1).alloc (Nat.le_refl _) (.cells #[] 5)
  have HNE := Lib.hid hne
  have HB2 := Lib.hid hb2
  have HL2 := Lib.hid ((HB0.out.kept hb1).kept hb2)
  clear hb1 hne hb2
  go_upto_region 6 with (first
    | (at_builtin; (with_reducible refine wpList_append_BS (o := ⟨some 25, _, _, _, _, _⟩) rfl _ _ rfl w1.heap.size (.slice (some ⟨w1.heap.size, 0, none⟩) 0 0) 0 [] rfl HNE.out (.slice a0 len0 cap0) l0 rfl HL2.out (by rw [HE.out.1]; have := HLE.out; omega) (by simp) ?_); intro v3 w3 ho3 hg3; (rw [Nat.zero_add, HE.out.1, List.nil_append] at ho3); obtain ⟨a3, c3, rfl, _⟩ := own_shape ho3; have HO3 := Lib.hid ho3; have HB3 := Lib.hid (HB2.out.grown hg3 (by simp) (fun k hk => by have h : w1.heap.size = k := Option.some.inj hk; omega)); have HB4 := Lib.hid ((Below.refl w3.heap.size w3).alloc (Nat.le_refl _) (.cells #[] 5)); have HNE4 := Lib.hid (own_empty w3); have HL4 := Lib.hid ((HB1.out.kept (HBE1.out.trans (HB3.out.mono HBE1.out.size))).kept HB4.out); clear ho3 hg3)
    | (at_builtin; (with_reducible refine wpList_append_BS (o := ⟨some 28, _, _, _, _, _⟩) rfl _ _ rfl w3.heap.size (.slice (some ⟨w3.heap.size, 0, none⟩) 0 0) 0 [] rfl HNE4.out (.slice a1 len1 cap1) l1 rfl HL4.out (by rw [HE.out.2]; have := HLE.out; omega) (by simp) ?_); intro v5 w5 ho5 hg5; (rw [Nat.zero_add, HE.out.2, List.nil_append] at ho5); obtain ⟨a5, c5, rfl, _⟩ := own_shape ho5; have HO5 := Lib.hid ho5; have HB5 := Lib.hid (HB4.out.grown hg5 (by simp) (fun k hk => by have h : w3.heap.size = k := Option.some.inj hk; omega)); clear ho5 hg5))
  have hbk : BS w5 (.slice a3 len0 c3) l0 := (BS.of_own HO3.out HE.out.1 HB0.out.byt).kept HB5.out
  have hbm : BS w5 (.slice a5 len1 c5) l1 := BS.of_own HO5.out HE.out.2 HB1.out.byt
  have HRK := Lib.hid (room_of_own HO3.out)
  have HRM := Lib.hid (room_of_own HO5.out)
  have hbe5 := HBE1.out.trans ((HB3.out.trans (HB5.out.mono HB3.out.size)).mono HBE1.out.size)
  have HBK := Lib.hid hbk
  have HBM := Lib.hid hbm
  have HBE5 := Lib.hid hbe5
  have MV := Lib.hid (fun (W : World) (hb : Below w5.heap.size w5 W) => mac_any l0 l1 _ _ W ((HK.out.below HBE5.out HPOS.out).below hb (Nat.lt_of_lt_of_le HPOS.out HBE5.out.size)) (HBK.out.kept hb) HRK.out (HBM.out.kept hb) HRM.out (by rw [HE.out.1]; have := HLE.out; omega) (by rw [HE.out.2]; have := HLE.out; omega))
  clear hbk hbm hbe5 HO3 HO5 HB2 HB3 HB4 HB5 HNE HNE4 HL2 HL4
  go_wp2_with fail
  refine (MV.out w5 (Below.refl _ _)).mono ?_
  rintro e w6 ⟨rfl, hb6⟩
  have HB6 := Lib.hid hb6
  clear hb6
  go_wp2_with fail
  refine (MV.out w6 HB6.out).mono ?_
  rintro e w7 ⟨rfl, hb7⟩
  have HB7 := Lib.hid (HB6.out.trans (hb7.mono HB6.out.size))
  clear hb7
  have SH := Lib.hid (size_h32 (macS l0 l1) (macS_length _ _))
  have SE := Lib.hid (show (u8s (List.replicate 32 0)).size = (u8s (macS l0 l1)).size by rw [u8s_size, u8s_size, macS_length]; rfl)
  go_upto_region 7 with (first
    | (with_reducible refine wpList_store_row (o := ⟨none, .store _ (.tmp 7) _, _, _, _, _⟩) rfl 24 _ _ rfl w7.heap.size (u8s (macS l0 l1)) rfl rfl 24 _ (heap_alloc2_old w7 _ _) SH.out ?c1 (u8s_one _) ?_)
    | (with_reducible refine wpList_store_row (o := ⟨none, .store _ (.tmp 8) _, _, _, _, _⟩) rfl 24 _ _ rfl (w7.heap.size + 1) (u8s (macS l0 l1)) rfl rfl 24 _ ((setRow_other _ _ _ _ (Nat.succ_ne_self _)).trans (heap_alloc2_new w7 _ _)) SH.out ?c2 (u8s_one _) ?_))
  case c1 => exact SE.out
  case c2 => exact SE.out
  generalize hW8 : World.setRow _ (w7.heap.size + 1) _ = W8
  have r8 : ArrB W8 w7.heap.size 24 (macS l0 l1) := by
    rw [← hW8]
    unfold ArrB
    rw [setRow_other _ _ _ _ (by omega)]
    exact setRow_heap _ w7.heap.size _ _ _ (0, 0) (heap_alloc2_old w7 _ _)
  have s8 : ArrB W8 (w7.heap.size + 1) 24 (macS l0 l1) := by
    rw [← hW8]
    exact setRow_heap _ (w7.heap.size + 1) _ _ _ (0, 0) ((setRow_other _ _ _ _ (Nat.succ_ne_self _)).trans (heap_alloc2_new w7 _ _))
  have b8 : Below w7.heap.size w7 W8 := by
    rw [← hW8]
    exact below_setRow (below_setRow (((Below.refl _ _).alloc (Nat.le_refl _) _).alloc (by simp) _) (Nat.le_refl _) _) (Nat.le_succ _) _
  clear hW8
  have HX8 := Lib.hid r8
  have HY8 := Lib.hid s8
  have HB8 := Lib.hid (HB7.out.trans (b8.mono HB7.out.size))
  clear r8 s8 b8 HB6 HB7
  generalize w7.heap.size = bx at *
  have HBE8 := Lib.hid (HBE5.out.trans (HB8.out.mono HBE5.out.size))
  have HK8 := Lib.hid (HK.out.below HBE8.out HPOS.out)
  have HBK8 := Lib.hid (HBK.out.kept HB8.out)
  have HBM8 := Lib.hid (HBM.out.kept HB8.out)
  have EXPV := Lib.hid (fun (W : World) (hb : Below W8.heap.size W8 W) => show Calls Tryd.prog 29 #[.slice a3 len0 c3, .string (strOfNums l1), .int .i64 70] W _ from exp_ok l0 (.slice a3 len0 c3) (strOfNums l1) 70 W (HK8.out.below hb HK8.out.pos) (HBK8.out.kept hb) HRK.out (by rw [HE.out.1]; have := HLE.out; omega) (by rw [strOfNums_size, HE.out.2]; have := HLE.out; omega) (by omega))
  have hcv := conv_BS HBM8.out
  go_wp2_with fail
  refine (EXPV.out W8 (Below.refl _ _)).mono ?_
  rintro e w9 ⟨⟨v9, rfl, ho9⟩, hb9⟩
  obtain ⟨a9, c9, rfl, hsh9⟩ := own_shape ho9
  obtain ⟨g9, rfl, _⟩ := hsh9.resolve_left (by omega)
  generalize hX : expS l0 (txt (strOfNums l1)) 70 = X at *
  have hXl : X.length = 70 := by rw [← hX]; exact expS_length _ _ _
  have hXy : Byt X := by rw [← hX]; exact expS_byt _ _ _
  have HXX := Lib.hid (And.intro hXl hXy)
  have HXE := Lib.hid hX
  have HO9 := Lib.hid ho9
  have HB9 := Lib.hid hb9
  clear hX hXl hXy ho9 hsh9 hb9 hcv
  go_wp2_with fail
  go_loopw [44] (fun v44 wr => ∃ i : Nat, i ≤ 70 ∧ v44 = .int .i64 (i : Nat) ∧ wr.ownsRow W8.heap.size 5 1 (.slice (some ⟨g9, 0, none⟩) 70 c9) 70 ((incP X i).map (Value.int .u8)) ∧ Below W8.heap.size W8 wr) (fun v _ => 70 - (intOf v).toNat)
  case atStart => exact ⟨0, by omega, rfl, by rw [incP_zero]; exact HO9.out, HB9.out⟩
  case round =>
    obtain ⟨i, hi, rfl, hO, hB⟩ := hrel
    by_cases hlt : i < 70
    · have hiL : i < X.length := by rw [HXX.out.1]; exact hlt
      have ci : wr.cell? ⟨g9, i, none⟩ = some (.int .u8 (X.getD i 0)) := by
        rw [hO.cellAt i (by omega), List.getElem?_map, List.getElem?_eq_getElem (by rw [incP_length]; exact hiL), Option.map_some]
        have := incP_at X i hiL
        rw [List.getD_eq_getElem?_getD, List.getElem?_eq_getElem (by rw [incP_length]; exact hiL), Option.getD_some] at this
        rw [this]
      have fi := hO.frozenAt i
      have hst := (hO.stored i (.int .u8 ((X.getD i 0 + 1) % 256))).1
      rw [← List.map_set, incP_set] at hst
      have hB' := hB.setCell (p := ⟨g9, i, none⟩) (HO9.out.lt g9 rfl).1 (.int .u8 ((X.getD i 0 + 1) % 256))
      obtain ⟨c0, c255⟩ := byt_at X HXX.out.2 i
      rw [← List.getD_eq_getElem?_getD] at c0 c255
      generalize X.getD i 0 = c at *
      have hiI : (i : Int) < 70 := by omega
      have hi0 : (0 : Int) ≤ (i : Int) := by omega
      have HST := Lib.hid hst
      have HBB := Lib.hid hB'
      have HLT := Lib.hid hlt
      clear hst hB' hB hO hlt hi hiL
      go_wp2_with fail
      go_roundw
      case rel => exact ⟨i + 1, by have := HLT.out; omega, by go_num, HST.out, HBB.out⟩
      case measure => simp [intOf]; omega
    · obtain rfl : i = 70 := by omega
      have HO10 := Lib.hid hO
      have HB10 := Lib.hid hB
      have hcv := conv_BS (HBM8.out.kept hB)
      clear hO hB hi hlt
      go_wp2_with fail
      refine (EXPV.out wr HB10.out).mono ?_
      rintro e w11 ⟨⟨v11, rfl, ho11⟩, hb11⟩
      obtain ⟨a11, c11, rfl, hsh11⟩ := own_shape ho11
      obtain ⟨g11, rfl, _⟩ := hsh11.resolve_left (by omega)
      have HO11 := Lib.hid ho11
      have HB11 := Lib.hid (HB10.out.trans (hb11.mono HB10.out.size))
      have HO12 := Lib.hid (own_below HO10.out hb11)
      have HGG := Lib.hid (show g9 < g11 from Nat.lt_of_lt_of_le (HO10.out.lt g9 rfl).2 (HO11.out.lt g11 rfl).1)
      clear ho11 hsh11 hb11 hcv
      go_wp2_with fail
      go_loopw [63] (fun v63 wx => ∃ i : Nat, i ≤ 70 ∧ v63 = .int .i64 (i : Nat) ∧ wx.ownsRow W8.heap.size 5 1 (.slice (some ⟨g9, 0, none⟩) 70 c9) 70 ((decP X 70 i).map (Value.int .u8)) ∧ wx.ownsRow wr.heap.size 5 1 (.slice (some ⟨g11, 0, none⟩) 70 c11) 70 (X.map (Value.int .u8)) ∧ Below W8.heap.size W8 wx) (fun v _ => 70 - (intOf v).toNat)
      case atStart => exact ⟨0, by omega, rfl, by rw [decP_zero]; exact HO12.out, HO11.out, HB11.out⟩
      case round =>
        rename World => wx
        obtain ⟨i, hi, rfl, hO, hY, hB⟩ := hrel
        by_cases hlt : i < 70
        · have hiL : i < X.length := by rw [HXX.out.1]; exact hlt
          have ci : wx.cell? ⟨g9, i, none⟩ = some (.int .u8 ((X.getD i 0 + 1) % 256)) := by
            rw [hO.cellAt i (by omega), List.getElem?_map, List.getElem?_eq_getElem (by rw [decP_length]; exact hiL), Option.map_some]
            have := decP_at X 70 i hlt hiL
            rw [List.getD_eq_getElem?_getD, List.getElem?_eq_getElem (by rw [decP_length]; exact hiL), Option.getD_some] at this
            rw [this]
          have fi := hO.frozenAt i
          obtain ⟨c0, c255⟩ := byt_at X HXX.out.2 i
          rw [← List.getD_eq_getElem?_getD] at c0 c255
          have hyc : ((X.getD i 0 + 1) % 256 - 1) % 256 = X.getD i 0 := by omega
          have hst := (hO.stored i (.int .u8 (((X.getD i 0 + 1) % 256 - 1) % 256))).1
          have hset := decP_set X 70 i
          rw [← List.map_set, hyc, hset] at hst
          have hst2 : (wx.setCell ⟨g9, i, none⟩ (.int .u8 (((X.getD i 0 + 1) % 256 - 1) % 256))).ownsRow W8.heap.size 5 1 (.slice (some ⟨g9, 0, none⟩) 70 c9) 70 ((decP X 70 (i + 1)).map (Value.int .u8)) := by rw [hyc]; exact hst
          have hB' := hB.setCell (p := ⟨g9, i, none⟩) (HO9.out.lt g9 rfl).1 (.int .u8 (((X.getD i 0 + 1) % 256 - 1) % 256))
          have hY' := ownsRow_setCell_other (w := wx) (a := ⟨g9, i, none⟩) hY (by intro h; have h2 : g11 = g9 := Option.some.inj h; have := HGG.out; omega) (.int .u8 (((X.getD i 0 + 1) % 256 - 1) % 256))
          obtain ⟨y, hy⟩ : ∃ y, y = (X.getD i 0 + 1) % 256 := ⟨_, rfl⟩
          have y0 : 0 ≤ y := by omega
          have y255 : y ≤ 255 := by omega
          rw [← hy] at ci hst2 hB' hY'
          have hiI : (i : Int) < 70 := by omega
          have hi0 : (0 : Int) ≤ (i : Int) := by omega
          have HST := Lib.hid hst2
          have HBB := Lib.hid hB'
          have HYY := Lib.hid hY'
          have HLT := Lib.hid hlt
          clear hst hst2 hset hyc hB' hY' hB hO hY hlt hi hiL hy c0 c255
          go_wp2_with fail
          go_roundw
          case rel => exact ⟨i + 1, by have := HLT.out; omega, by go_num, HST.out, HYY.out, HBB.out⟩
          case measure => simp [intOf]; omega
        · obtain rfl : i = 70 := by omega
          rw [decP_full] at hO
          have HX9 := Lib.hid (show wx.heap[bx]? = some (.cells (u8s (macS l0 l1)) 24 (0, 0)) from HX8.out.below hB HX8.out.lt)
          have HY9 := Lib.hid (show wx.heap[bx + 1]? = some (.cells (u8s (macS l0 l1)) 24 (0, 0)) from HY8.out.below hB HY8.out.lt)
          have HBE9 := Lib.hid (HBE8.out.trans (hB.mono HBE8.out.size))
          have HK9 := Lib.hid (HK.out.below HBE9.out HPOS.out)
          have hbk := HBK8.out.kept hB
          have hbm := HBM8.out.kept hB
          have hbX := BS.of_own hO HXX.out.1 HXX.out.2
          have hbY := BS.of_own hY HXX.out.1 HXX.out.2
          have SAME0 := Lib.hid (same_eq wx _ _ l0 hbk (HB0.out.kept HBE9.out))
          have SAME1 := Lib.hid (same_eq wx _ _ l1 hbm (HB1.out.kept HBE9.out))
          have SAMEX := Lib.hid (fun (W : World) (hb : Below wx.heap.size wx W) => same_eq W _ _ X (hbX.kept hb) (hbY.kept hb))
          have DERV := Lib.hid (derive_any l0 _ ⟨#[]⟩ wx HK9.out hbk HRK.out (by rw [HE.out.1]; have := HLE.out; omega) (by decide))
          have MACN := Lib.hid (fun (W : World) (hb : Below wx.heap.size wx W) => mac_any l0 [] (.slice a3 len0 c3) (.slice none 0 0) W (HK9.out.below hb HK9.out.pos) (hbk.kept hb) HRK.out ⟨none, 0, rfl, (by intro z hz; simp at hz), fun _ => rfl, .inl rfl⟩ (room_of _ _ _ (by omega) (by omega)) (by rw [HE.out.1]; have := HLE.out; omega) (by simp))
          have heX := eq_hash_same (macS l0 l1) (macS_length _ _) (macS_byt _ _)
          have heN := eq_hash_same (macS l0 []) (macS_length _ _) (macS_byt _ _)
          clear hO hY hB hbk hbm hbX hbY hi hlt HO9 HB9 HO10 HB10 HO11 HB11 HO12
          go_wp2_with (first
            | (with_reducible refine wpList_load_row (o := ⟨some 73, _, _, _, _, _⟩) rfl 24 _ rfl bx rfl 24 (u8s (macS l0 l1)) (0, 0) _ HX9.out Tryd.underlying24 rfl SH.out ?_)
            | (with_reducible refine wpList_load_row (o := ⟨some 74, _, _, _, _, _⟩) rfl 24 _ rfl (bx + 1) rfl 24 (u8s (macS l0 l1)) (0, 0) _ HY9.out Tryd.underlying24 rfl SH.out ?_))
          refine SAME0.out.mono ?_
          rintro e w20 ⟨rfl, rfl⟩
          go_wp2_with fail
          refine SAME1.out.mono ?_
          rintro e w21 ⟨rfl, rfl⟩
          go_wp2_with fail
          refine DERV.out.mono ?_
          rintro e w22 ⟨rfl, hb22⟩
          have HB22 := Lib.hid hb22
          clear hb22
          rw [show txt ⟨#[]⟩ = [] from rfl]
          go_wp2_with fail
          refine (MACN.out w22 HB22.out).mono ?_
          rintro e w23 ⟨rfl, hb23⟩
          have HB23 := Lib.hid (HB22.out.trans (hb23.mono HB22.out.size))
          clear hb23
          go_wp2_with fail
          refine (SAMEX.out w23 HB23.out).mono ?_
          rintro e w24 ⟨rfl, rfl⟩
          go_wp2_with fail
          go_ret
          exact ⟨rfl, HBE9.out.trans (HB23.out.mono HBE9.out.size)⟩
set_option maxRecDepth 100000 in
theorem lifted (os : Os) (started : os.Started) (H : Type) (enc : TypeId × Value → H) :
    ReturnsInHanded {} Tryd.checked os 10 .any (fun w args => (Rows.macStaysSpec.pre enc Tryd.prog Tryd.f10 [] false w args ∧ laidMetH Tryd.prog [("banyan/sha.roundNumbers", Rows.laid_banyan_sha_roundNumbers)] w) ∧ sizedMet enc Tryd.prog Tryd.f10 (OpenSpec.ofChange Rows.macStaysSpec) false w args)
      (Rows.macStaysSpec.post enc Tryd.prog Tryd.f10 false true false false) := by
  refine returnsInHanded_of_change_and (C := Tryd.checked) (X := fun w _ => laidMetH Tryd.prog [("banyan/sha.roundNumbers", Rows.laid_banyan_sha_roundNumbers)] w) (fun _ _ _ hh h => h.of_heap hh) own started (by kernel_rfl) Tryd.func10
    (ChangeSpec.witness_shaped (enc := enc) (C := Tryd.checked) (os := os) (X := fun w _ => laidMetH Tryd.prog [("banyan/sha.roundNumbers", Rows.laid_banyan_sha_roundNumbers)] w) false (World.doorLaid Tryd.prog 400 os) #[.slice none 0 0, .slice none 0 0] 8 rfl (World.shaped_of_RefB (by kernel_rfl) (by kernel_rfl)) (by kernel_rfl) (by kernel_rfl) (by kernel_rfl) (door_met os _)) ?_
  intro W base args ds gs before hval0 hW _ hsz0 hL _
  have hval : ∀ (j : Nat) t v, Tryd.f10.params[j]? = some t → args[j]? = some v → Value.okWide Tryd.prog W .any base t v := hval0
  have hsz : (DataW.weightsEach Tryd.prog (Tryd.f10.params.toList ++ Rows.macStaysSpec.plain.varTypes Tryd.prog) (ds ++ gs)).all (· ≤ reachBytes) = true := hsz0
  clear hsz0
  have hW' := hW
  obtain ⟨p, q, hA0, hV, rfl, hfz, hnd⟩ := hW
  have hA : DataW.TrodAll enc Tryd.prog W 0 (fun _ => true) true Tryd.f10.params.toList args.toList ds p := hA0
  rw [Tryd.params10] at hA hval hsz
  obtain ⟨v0, vs0, d0, ds0, p0, q0, hargs, rfl, rfl, h0, r0⟩ := trodAll_cons hA
  obtain ⟨v1, vs1, d1, ds1, p1, q1, rfl, rfl, rfl, h1, r1⟩ := trodAll_cons r0
  obtain ⟨rfl, rfl, rfl⟩ := trodAll_nil r1
  obtain rfl : args = #[v0, v1] := by cases args; simp_all
  obtain ⟨rfl, rfl⟩ := trodVars_none hV
  have k0 := h0
  have lt0 : ∀ x ∈ p0, x.block < W.heap.size := by obtain ⟨m, hm⟩ := k0; exact DataW.trod_lt m _ _ _ hm
  have k1 := h1
  have lt1 : ∀ x ∈ p1, x.block < W.heap.size := by obtain ⟨m, hm⟩ := k1; exact DataW.trod_lt m _ _ _ hm
  obtain ⟨a0, len0, cap0, l0, rfl, e0, b0, m0, n0⟩ := open_bs (hval 0 22 v0 rfl rfl) h0 (fun elems spare hd => sized_slice hsz (j := 0) (t := 22) (e := 5) rfl (by rw [hd]; rfl) Tryd.underlying22)
  obtain ⟨a1, len1, cap1, l1, rfl, e1, b1, m1, n1⟩ := open_bs (hval 1 22 v1 rfl rfl) h1 (fun elems spare hd => sized_slice hsz (j := 1) (t := 22) (e := 5) rfl (by rw [hd]; rfl) Tryd.underlying22)
  have hK := of_laid hL
  clear hA0 hval0
  refine (walk W a0 len0 cap0 l0 e0 b0 m0 n0 a1 len1 cap1 l1 e1 b1 m1 n1 hK).mono fun e W' ⟨he, bel⟩ => ?_
  subst he
  exact ⟨_, rfl, _, _, _, [], _, [], hW', trodAll_mk1 (shut_bool Tryd.underlying4 _), (trodAll_cons_mk (Below.trod laidOut (by kernel_rfl) (of_decide_eq_true (by kernel_rfl)) k0 bel lt0) (trodAll_cons_mk (Below.trod laidOut (by kernel_rfl) (of_decide_eq_true (by kernel_rfl)) k1 bel lt1) trodAll_mk0)), rfl, bel.frame _, fun h => by cases h⟩

theorem over : Rows.MacStaysSaid :=
  OpenClaim.holds_of_wide 10 Tryd.f10 rfl rfl rfl rfl rfl rfl rfl ⟨rfl, rfl, rfl, rfl, rfl⟩ rfl rfl rfl rfl rfl (by kernel_rfl) Tryd.func10 (by kernel_rfl)
    (of_decide_eq_true (by kernel_rfl)) (by unfold Func.isWrapper; first | (rw [if_pos (by decide +kernel)]; kernel_rfl) | (rw [if_neg (by decide +kernel)]; exact ⟨rfl, rfl⟩))
    (fun os started H enc _ => lifted os started H enc)

/-- The statement. -/
theorem proved : Rows.MacStaysCardSaid :=
  Claim7.holds_tied_plain_at .later [] [.data] true (true, "e0374d2ffff8b996aa7eb96177f9d43dd083ddb5548ca805c513efc6b04d9a8e") false
    over (fun _ h => by cases h) (by kernel_rfl) (fun _ h => by cases h) macStays_row_tie rfl ⟨rfl, rfl⟩ (by kernel_rfl) rfl
    (fun f fn hf hfn => by
      obtain rfl : f = 10 := Option.some.inj ((show Tryd.prog.funcNamed "banyan/banyanlaw03.MacStays" = some 10 by kernel_rfl).symm.trans hf) |>.symm
      obtain rfl : fn = Tryd.f10 := (Option.some.inj (Tryd.func10.symm.trans hfn)).symm
      exact ⟨by kernel_rfl, fun j t ht => by
        rw [Tryd.params10] at ht
        have hm : t ∈ [22, 22] := by simpa using Array.mem_of_getElem? ht
        have hall : ([22, 22].all fun u => !Tryd.prog.wantsStandIn u) = true := by kernel_rfl
        exact (show Tryd.prog.wantsStandIn t = false by simpa using List.all_eq_true.1 hall t hm)⟩)
    (by kernel_rfl)
#print axioms proved
end Go.Proofs.YtpmeiadnikenmaaDoor.macStays
