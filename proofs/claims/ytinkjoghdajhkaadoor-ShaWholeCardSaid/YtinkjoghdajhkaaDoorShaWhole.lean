/-
  'ShaWhole' returns true at every input, and each argument reads behind the call as it read before. Conditions: the package-level variable that the row lists starts as the program's text lays it (the card ties that).
-/
import Derived.Test.YtinkjoghdajhkaaDoorLaid
import Derived.Test.YtinkjoghdajhkaaDoorCards
import Derived.Test.YtinkjoghdajhkaaDoorTie
import Derived.Test.YtinkjoghdajhkaaDoorOne
import Derived.Deep.DeepCutAuto
namespace Go.Proofs.YtinkjoghdajhkaaDoor.shaWhole
open Go.ChangeShapes Go.WideShapes Go.ChangeAt Go.RowKit
set_option linter.unusedVariables false

theorem own_below {w w' : World} {base n : Nat} {e : TypeId} {v : Value} {xs : List Value} (h : w.ownsRow base e 1 v n xs) (hb : Below w.heap.size w w') : w'.ownsRow base e 1 v n xs := by
  refine ⟨h.1, ?_⟩
  rcases h.2 with h2 | ⟨g, cap, cur, hv, hg, hh, r⟩
  · exact .inl h2
  · exact .inr ⟨g, cap, cur, hv, hg, by rw [hb.block g (lt_of_block hh)]; exact hh, r⟩
theorem own_grown {w w' : World} {base n b : Nat} {e : TypeId} {v : Value} {xs : List Value} (h : w.ownsRow base e 1 v n xs) (hb : w.grownBy w' (some b)) (hne : ∀ k, v.ownBlock = some k → k ≠ b) : w'.ownsRow base e 1 v n xs := by
  refine ⟨h.1, ?_⟩
  rcases h.2 with h2 | ⟨g, cap, cur, hv, hg, hh, r⟩
  · exact .inl h2
  · exact .inr ⟨g, cap, cur, hv, hg, by rw [hb.block g (lt_of_block hh) (fun e => hne g (by rw [hv]; rfl) (Option.some.inj e))]; exact hh, r⟩

set_option maxRecDepth 100000 in
set_option maxHeartbeats 1600000 in
theorem walk (w : World) (a0 : Option Addr) (len0 cap0 : Nat) (l0 : List Int) (e0 : l0.length = len0) (b0 : BS w (.slice a0 len0 cap0) l0) (m0 : len0 ≤ cap0) (n0 : cap0 ≤ 140737488351232) (a1 : Int) (h10 : 0 ≤ a1) (h11 : a1 ≤ 65535) (hK : KT w) :
    Calls Tryd.prog 5 #[.slice a0 len0 cap0, .int .u16 a1] w fun e w' => e = .returned (.bool true) ∧ Below w.heap.size w w' := by
  have HK := Lib.hid hK
  have hpos : 0 < w.heap.size := hK.pos
  have HPOS := Lib.hid hpos
  have HB0 := Lib.hid b0
  have HE := Lib.hid e0
  have HM := Lib.hid (And.intro m0 n0)
  have len0I : (len0 : Int) ≤ 140737488351232 := by omega
  clear hK b0 e0 m0 n0 hpos
  by_cases hbig : (5000 : Int) < (len0 : Int)
  · go_enter Tryd.func5, Tryd.ntmps5
    go_wp2_with fail
    refine (alive2_any w HK.out).mono ?_
    rintro e w1 ⟨rfl, hb1⟩
    go_wp2_with fail
    go_ret
    exact ⟨rfl, hb1⟩
  have lenI : (len0 : Int) ≤ 5000 := by omega
  have len0p : (0 : Int) ≤ (len0 : Int) := by omega
  obtain ⟨k, hk, hkl⟩ : ∃ k : Nat, a1 % ((len0 : Int) + 1) = (k : Int) ∧ k ≤ len0 := ⟨(a1 % ((len0 : Int) + 1)).toNat, by
    have := Int.emod_nonneg a1 (show (len0 : Int) + 1 ≠ 0 by omega)
    omega, by
    have := Int.emod_lt_of_pos a1 (show (0 : Int) < (len0 : Int) + 1 by omega)
    omega⟩
  have kI : (k : Int) ≤ (len0 : Int) := by omega
  have k0 : (0 : Int) ≤ (k : Int) := by omega
  have HKL := Lib.hid hkl
  have LN := Lib.hid (show len0 ≤ 5000 by omega)
  clear hbig hkl
  go_enter Tryd.func5, Tryd.ntmps5
  go_wp2_with fail
  refine (alive2_any w HK.out).mono ?_
  rintro e w1 ⟨rfl, hb1⟩
  have HBE1 := Lib.hid hb1
  have HOW := Lib.hid (own_empty w1)
  have HA1 := Lib.hid (HB0.out.kept (hb1.alloc hb1.size (.cells #[] 5)))
  have SZ1 := Lib.hid hb1.size
  clear hb1
  go_wp2_with (first
    | (at_builtin; with_reducible refine wpList_append_BS (o := ⟨some 27, _, _, _, _, _⟩) rfl _ _ rfl w1.heap.size (.slice (some ⟨w1.heap.size, 0, none⟩) 0 0) 0 [] rfl HOW.out (.slice a0 len0 cap0) l0 rfl HA1.out (by have := LN.out; have := HE.out; omega) (by simp) ?_; intro v2 w2 ho2 hg2; have HO2 := Lib.hid ho2; have HG2 := Lib.hid hg2; clear ho2 hg2))
  have b12 : Below w1.heap.size w1 w2 := ((Below.refl w1.heap.size w1).alloc (Nat.le_refl _) _).grown HG2.out (by simp) (by intro k hk; simp [Value.ownBlock] at hk; omega)
  have ho2 := HO2.out
  rw [Nat.zero_add, List.nil_append, HE.out] at ho2
  obtain ⟨a, cap, hv2, hroom, hownb⟩ : ∃ a cap, v2 = .slice a len0 cap ∧ len0 ≤ cap ∧ (len0 = 0 ∨ ∃ g, a = some ⟨g, 0, none⟩ ∧ w1.heap.size ≤ g ∧ g < w2.heap.size) := by
    rcases ho2.2 with ⟨rfl, h0⟩ | ⟨g, cap, cur, rfl, hg, hgc, hn, _⟩
    · exact ⟨none, 0, by rw [h0], by omega, .inl h0⟩
    · exact ⟨_, cap, rfl, hn, .inr ⟨g, rfl, hg, lt_of_block hgc⟩⟩
  have hrm := room_of_own ho2
  subst hv2
  have hcap := (hrm _ _ _ rfl).2
  have HOB := Lib.hid hownb
  have HRM := Lib.hid (And.intro hroom hcap)
  have HOW2 := Lib.hid ho2
  have HW2 := Lib.hid (HBE1.out.trans (b12.mono SZ1.out))
  have SZ2 := Lib.hid (Nat.le_trans SZ1.out b12.size)
  clear b12 ho2 hrm hcap hroom hownb
  go_wp2_with fail
  refine (new_any _).mono ?_
  rintro e w3 ⟨h, rfl, hh, hhl, hb3⟩
  have HO3 := Lib.hid (own_below HOW2.out hb3)
  have hbel3 := HW2.out.trans (hb3.mono SZ2.out)
  have HT3 := Lib.hid (show One w w3 h [] from ⟨hbel3, HK.out.below hbel3 HPOS.out, hh, Nat.le_trans SZ2.out hhl⟩)
  have HNE := Lib.hid (show ∀ g, a = some ⟨g, 0, none⟩ → len0 ≠ 0 → w.heap.size ≤ g ∧ h ≠ g from by
    intro g hg h0
    rcases HOB.out with e | ⟨g', e1, e2, e3⟩
    · exact absurd e h0
    · rw [hg] at e1
      injection e1 with e1
      injection e1 with e1
      subst e1
      exact ⟨Nat.le_trans SZ1.out e2, by omega⟩)
  have HNB := Lib.hid (show ∀ q, (Value.slice a len0 cap).ownBlock = some q → q ≠ h from fun q hq => by
    have := (HOW2.out.lt q hq).2
    omega)
  clear hh hhl hb3 hbel3
  have HOFF := Lib.hid (show len0 ≠ 0 → ∀ x, a = some x → x.block ≠ h from by
    intro h0 x hx
    rcases HOB.out with e | ⟨g', e1, e2, e3⟩
    · exact absurd e h0
    · rw [hx] at e1
      injection e1 with e1
      rw [e1]
      exact fun e => (HNE.out g' (by rw [hx, e1]) h0).2 e.symm)
  obtain ⟨c1, _, _, hs1, hbs1, hoff1⟩ := slice_part w3 a len0 cap 0 k l0 (BS.of_own HO3.out HE.out HB0.out.byt) HE.out (by omega) (by have := HKL.out; omega) HRM.out.1
  have hs1' := hs1 rfl
  rw [Nat.sub_zero, Nat.sub_zero] at hs1' hbs1 hoff1
  rw [List.drop_zero] at hbs1
  have hoff : Off h (.slice c1 k cap) := by
    by_cases h0 : len0 = 0
    · intro x n c e hn
      injection e with _ e2 _
      have := HKL.out
      omega
    · exact hoff1 h (HOFF.out h0)
  have hw4 := write_any h [] (l0.take k) _ w3 HT3.out.hh HT3.out.kt (HT3.out.pos HPOS.out) hbs1 (room_of _ _ _ (by have := HKL.out; have := HRM.out.1; omega) HRM.out.2) hoff (by rw [List.length_take]; have := LN.out; have := HE.out; simp; omega)
  rw [List.nil_append] at hw4
  have HW4 := Lib.hid hw4
  clear hs1 hbs1 hoff1 hoff hw4
  go_wp2_with fail
  refine HW4.out.mono ?_
  rintro e w4 ⟨rfl, hr4, hg4⟩
  have HT4 := Lib.hid (HT3.out.put HPOS.out hg4 hr4.has)
  have HO4 := Lib.hid (own_grown HO3.out hg4 HNB.out)
  clear hr4 hg4
  go_wp2_with fail
  go_loopw [38] (fun v38 wr => ∃ i : Nat, i ≤ k ∧ v38 = .int .i64 (i : Nat) ∧ One w wr h (l0.take k) ∧ wr.ownsRow w1.heap.size 5 1 (.slice a len0 cap) len0 ((incP l0 i).map (Value.int .u8))) (fun v _ => k - (intOf v).toNat)
  case atStart => exact ⟨0, by omega, rfl, HT4.out, by rw [incP_zero]; exact HO4.out⟩
  case round =>
    obtain ⟨i, hi, rfl, hT, hO⟩ := hrel
    by_cases hlt : i < k
    · have h0 : len0 ≠ 0 := by have := HKL.out; omega
      obtain ⟨g, rfl, _, _⟩ := HOB.out.resolve_left h0
      have hiL : i < l0.length := by rw [HE.out]; have := HKL.out; omega
      have ci : wr.cell? ⟨g, i, none⟩ = some (.int .u8 (l0.getD i 0)) := by
        rw [hO.cellAt i (by rw [Nat.mul_one]; have := HKL.out; omega), List.getElem?_map, List.getElem?_eq_getElem (by rw [incP_length]; exact hiL), Option.map_some]
        have := incP_at l0 i hiL
        rw [List.getD_eq_getElem?_getD, List.getElem?_eq_getElem (by rw [incP_length]; exact hiL), Option.getD_some] at this
        rw [this]
      have fi := hO.frozenAt i
      have hst := (hO.stored i (.int .u8 ((l0.getD i 0 + 1) % 256))).1
      rw [← List.map_set, incP_set] at hst
      have hT' := hT.cell HPOS.out g i (.int .u8 ((l0.getD i 0 + 1) % 256)) (HNE.out g rfl h0).1 (HNE.out g rfl h0).2
      obtain ⟨c0, c255⟩ := byt_at l0 HB0.out.byt i
      rw [← List.getD_eq_getElem?_getD] at c0 c255
      generalize l0.getD i 0 = c at *
      have hiI : (i : Int) < (k : Int) := by omega
      have hi0 : (0 : Int) ≤ (i : Int) := by omega
      have HST := Lib.hid hst
      have HTT := Lib.hid hT'
      have HLT := Lib.hid hlt
      clear hst hT' hT hO hlt hi h0 hiL
      go_wp2_with fail
      go_roundw
      case rel => exact ⟨i + 1, by have := HLT.out; omega, by go_num, HTT.out, HST.out⟩
      case measure => simp [intOf]; omega
    · have hge : (k : Int) ≤ (i : Int) := by omega
      have hik : i = k := by omega
      rw [hik] at hO
      have HT5 := Lib.hid hT
      have HO5 := Lib.hid hO
      clear hT hO hlt hi hik
      obtain ⟨c2, _, hs2, _, hbs2, hoff2⟩ := slice_part wr a len0 cap k len0 (incP l0 k) (BS.of_own HO5.out (by rw [incP_length]; exact HE.out) (incP_byt _ HB0.out.byt k)) (by rw [incP_length]; exact HE.out) HKL.out (Nat.le_refl _) HRM.out.1
      have hs2' := hs2 rfl
      have htk : ((incP l0 k).drop k).take (len0 - k) = l0.drop k := by
        rw [incP_drop, List.take_of_length_le (by rw [List.length_drop, HE.out]; omega)]
      rw [htk] at hbs2
      have hoffb : Off h (.slice c2 (len0 - k) (cap - k)) := by
        by_cases h0 : len0 = 0
        · intro x n c e hn
          injection e with _ e2 _
          omega
        · exact hoff2 h (HOFF.out h0)
      have hw6 := write_any h (l0.take k) (l0.drop k) _ wr HT5.out.hh HT5.out.kt (HT5.out.pos HPOS.out) hbs2 (room_of _ _ _ (by have := HRM.out.1; omega) (by have := HRM.out.2; omega)) hoffb (by rw [List.length_take, List.length_drop]; have := LN.out; have := HE.out; omega)
      rw [List.take_append_drop] at hw6
      have HW6 := Lib.hid hw6
      clear hs2 hbs2 hoff2 hoffb hw6 htk
      go_wp2_with fail
      refine HW6.out.mono ?_
      rintro e w6 ⟨rfl, hr6, hg6⟩
      have HT6 := Lib.hid (HT5.out.put HPOS.out hg6 hr6.has)
      have HO6 := Lib.hid (own_grown HO5.out hg6 HNB.out)
      clear hr6 hg6
      go_wp2_with fail
      go_loopw [57] (fun v57 wr => ∃ i : Nat, i ≤ k ∧ v57 = .int .i64 (i : Nat) ∧ One w wr h l0 ∧ wr.ownsRow w1.heap.size 5 1 (.slice a len0 cap) len0 ((decP l0 k i).map (Value.int .u8))) (fun v _ => k - (intOf v).toNat)
      case atStart => exact ⟨0, by omega, rfl, HT6.out, by rw [decP_zero]; exact HO6.out⟩
      case round =>
        obtain ⟨i, hi, rfl, hT, hO⟩ := hrel
        clear hge
        by_cases hlt : i < k
        · have h0 : len0 ≠ 0 := by have := HKL.out; omega
          obtain ⟨g, rfl, _, _⟩ := HOB.out.resolve_left h0
          have hiL : i < l0.length := by rw [HE.out]; have := HKL.out; omega
          have ci : wr.cell? ⟨g, i, none⟩ = some (.int .u8 ((l0.getD i 0 + 1) % 256)) := by
            rw [hO.cellAt i (by rw [Nat.mul_one]; have := HKL.out; omega), List.getElem?_map, List.getElem?_eq_getElem (by rw [decP_length]; exact hiL), Option.map_some]
            have := decP_at l0 k i hlt hiL
            rw [List.getD_eq_getElem?_getD, List.getElem?_eq_getElem (by rw [decP_length]; exact hiL), Option.getD_some] at this
            rw [this]
          have fi := hO.frozenAt i
          obtain ⟨c0, c255⟩ := byt_at l0 HB0.out.byt i
          rw [← List.getD_eq_getElem?_getD] at c0 c255
          have hyc : ((l0.getD i 0 + 1) % 256 - 1) % 256 = l0.getD i 0 := by omega
          have hst := (hO.stored i (.int .u8 (((l0.getD i 0 + 1) % 256 - 1) % 256))).1
          have hset := decP_set l0 k i
          rw [← List.map_set, hyc, hset] at hst
          have hst2 : (wr.setCell ⟨g, i, none⟩ (.int .u8 (((l0.getD i 0 + 1) % 256 - 1) % 256))).ownsRow w1.heap.size 5 1 (.slice (some ⟨g, 0, none⟩) len0 cap) len0 ((decP l0 k (i + 1)).map (Value.int .u8)) := by rw [hyc]; exact hst
          have hT' := hT.cell HPOS.out g i (.int .u8 (((l0.getD i 0 + 1) % 256 - 1) % 256)) (HNE.out g rfl h0).1 (HNE.out g rfl h0).2
          obtain ⟨y, hy⟩ : ∃ y, y = (l0.getD i 0 + 1) % 256 := ⟨_, rfl⟩
          have y0 : 0 ≤ y := by omega
          have y255 : y ≤ 255 := by omega
          rw [← hy] at ci hst2 hT'
          have hiI : (i : Int) < (k : Int) := by omega
          have hi0 : (0 : Int) ≤ (i : Int) := by omega
          have HST := Lib.hid hst2
          have HTT := Lib.hid hT'
          have HLT := Lib.hid hlt
          clear hst hst2 hset hyc hT' hT hO hlt hi h0 hiL hy c0 c255
          go_wp2_with fail
          go_roundw
          case rel => exact ⟨i + 1, by have := HLT.out; omega, by go_num, HTT.out, HST.out⟩
          case measure => simp [intOf]; omega
        · have hge : (k : Int) ≤ (i : Int) := by omega
          have hik : i = k := by omega
          rw [hik, decP_full] at hO
          have HT7 := Lib.hid hT
          have HO7 := Lib.hid hO
          have HS7 := Lib.hid (sum_any h l0 wr hT.hh hT.kt (by rw [HE.out]; have := LN.out; omega))
          clear hT hO hlt hi hik
          go_wp2_with fail
          refine HS7.out.mono ?_
          rintro e w8 ⟨rfl, hb8⟩
          have HT8 := Lib.hid (HT7.out.below hb8)
          have HO8 := Lib.hid (own_below HO7.out hb8)
          have SH0 := Lib.hid (size_h32 (hashS l0) (hashS_length l0))
          have SE := Lib.hid (show (u8s (List.replicate 32 0)).size = (u8s (hashS l0)).size by rw [u8s_size, u8s_size, hashS_length]; rfl)
          clear hb8
          go_wp2_with (first
            | (with_reducible refine wpList_store_row (o := ⟨none, .store _ (.tmp 12) _, _, _, _, _⟩) rfl 24 _ _ rfl w8.heap.size (u8s (hashS l0)) rfl rfl 24 _ (heap_alloc_new w8 _) SH0.out ?c1 (u8s_one _) ?_))
          case c1 => exact SE.out
          generalize hW13 : World.setRow _ w8.heap.size _ = W13
          obtain ⟨r13, z13, b13⟩ := fresh_row w8 (u8s (List.replicate 32 0)) (u8s (hashS l0)) 24 W13 hW13.symm
          clear hW13
          have HT13 := Lib.hid (HT8.out.below b13)
          have HO13 := Lib.hid (own_below HO8.out b13)
          have HX13 := Lib.hid (show ArrB W13 w8.heap.size 24 (hashS l0) from r13)
          clear r13 z13 b13
          generalize w8.heap.size = bx at *
          have hS : ∀ W : World, Below W13.heap.size W13 W → (W.rangeAt bx 0 (u8s (hashS l0)).toList ∧ BS W (.slice a len0 cap) l0 ∧ BS W (.slice a0 len0 cap0) l0) := fun W hb =>
            ⟨(HX13.out.below hb HX13.out.lt).range, (BS.of_own HO13.out HE.out HB0.out.byt).kept hb, HB0.out.kept (HT13.out.bel.trans (hb.mono HT13.out.bel.size))⟩
          have HS := Lib.hid hS
          have HSD := Lib.hid (hS _ (Below.refl _ W13).drew)
          have hu := Tryd.underlying24
          have hiX : (Tryd.prog.info? 24).map (·.size) = some (u8s (hashS l0)).toList.length := by rw [info_h32, Array.length_toList, u8s_size, hashS_length]
          have heX := eq_hash_same (hashS l0) (hashS_length _) (hashS_byt _)
          have SUMA := Lib.hid (fun (W : World) (hb : Below W13.heap.size W13 W) => shasum_any l0 (.slice a0 len0 cap0) W (HT13.out.kt.below hb HT13.out.kt.pos) (HB0.out.kept (HT13.out.bel.trans (hb.mono HT13.out.bel.size))) (room_of _ _ _ HM.out.1 (by have := HM.out.2; omega)) (by rw [HE.out]; have := LN.out; omega))
          clear hS hge
          refine wp_region_noPanic ?_
          refine wp_region_held_drew (S := fun w' => w'.rangeAt bx 0 (u8s (hashS l0)).toList ∧ BS w' (.slice a len0 cap) l0 ∧ BS w' (.slice a0 len0 cap0) l0) (by kernel_rfl) HSD.out (fun hHeld => ?_)
          refine wpAnyH_take (i := 0) (oi := ⟨some 72, _, _, _, _, _⟩) (v := ?_) rfl (by kernel_rfl) (by decide +kernel) (by decide +kernel) (fun _ _ _ h => h) (Or.inl ⟨by rfl, ?_⟩) (by assumption) ?_
          rotate_left 1
          · (intro w' hSw; go_simp; try with_reducible rfl)
          try simp only [Act.put, List.setIfInBounds_toArray, List.set_cons_zero, List.set_cons_succ]
          refine wpAnyH_take (i := 1) (oi := ⟨some 73, _, _, _, _, _⟩) (v := ?_) rfl (by kernel_rfl) (by decide +kernel) (by decide +kernel) (fun _ _ _ h => h) (Or.inl ⟨by rfl, ?_⟩) (by assumption) ?_
          rotate_left 1
          · (intro w' hSw; go_simp; try with_reducible rfl)
          try simp only [Act.put, List.setIfInBounds_toArray, List.set_cons_zero, List.set_cons_succ]
          refine wpAnyH_take (i := 2) (oi := ⟨some 74, _, _, _, _, _⟩) (v := ?_) rfl (by kernel_rfl) (by decide +kernel) (by decide +kernel) (fun _ _ _ h => h) (Or.inl ⟨by rfl, ?_⟩) (by assumption) ?_
          rotate_left 1
          · (intro w' hSw; go_simp; try with_reducible rfl)
          try simp only [Act.put, List.setIfInBounds_toArray, List.set_cons_zero, List.set_cons_succ]
          refine wpAnyH_take (i := 3) (oi := ⟨some 75, _, _, _, _, _⟩) (v := ?_) rfl (by kernel_rfl) (by decide +kernel) (by decide +kernel) (fun _ _ _ h => h) (Or.inl ⟨by rfl, ?_⟩) (by assumption) ?_
          rotate_left 1
          · (intro w' hSw; go_simp; try with_reducible rfl)
          try simp only [Act.put, List.setIfInBounds_toArray, List.set_cons_zero, List.set_cons_succ]
          refine wpAnyH_take (i := 4) (oi := ⟨some 76, _, _, _, _, _⟩) (v := ?_) rfl (by kernel_rfl) (by decide +kernel) (by decide +kernel) (fun _ _ _ h => h) (Or.inl ⟨by rfl, ?_⟩) (by assumption) ?_
          rotate_left 1
          · (intro w' hSw; go_simp; try with_reducible rfl)
          try simp only [Act.put, List.setIfInBounds_toArray, List.set_cons_zero, List.set_cons_succ]
          refine wpAnyH_take (i := 5) (oi := ⟨some 77, _, _, _, _, _⟩) (v := ?_) rfl (by kernel_rfl) (by decide +kernel) (by decide +kernel) (fun _ _ _ h => h) (Or.inl ⟨by rfl, ?_⟩) (by assumption) ?_
          rotate_left 1
          · (intro w' hSw; go_simp; try with_reducible rfl)
          try simp only [Act.put, List.setIfInBounds_toArray, List.set_cons_zero, List.set_cons_succ]
          refine wpAnyH_take (i := 6) (oi := ⟨some 78, _, _, _, _, _⟩) (v := ?_) rfl (by kernel_rfl) (by decide +kernel) (by decide +kernel) (fun _ _ _ h => h) (Or.inl ⟨by rfl, ?_⟩) (by assumption) ?_
          rotate_left 1
          · (intro w' hSw; go_simp; try with_reducible rfl)
          try simp only [Act.put, List.setIfInBounds_toArray, List.set_cons_zero, List.set_cons_succ]
          refine wpAnyH_take (i := 7) (oi := ⟨some 79, _, _, _, _, _⟩) (v := ?_) rfl (by kernel_rfl) (by decide +kernel) (by decide +kernel) (fun _ _ _ h => h) (Or.inl ⟨by rfl, ?_⟩) (by assumption) ?_
          rotate_left 1
          · (intro w' hSw; go_simp; try with_reducible rfl)
          try simp only [Act.put, List.setIfInBounds_toArray, List.set_cons_zero, List.set_cons_succ]
          refine wpAnyH_take (i := 8) (oi := ⟨some 80, _, _, _, _, _⟩) (v := ?_) rfl (by kernel_rfl) (by decide +kernel) (by decide +kernel) (fun _ _ _ h => h) (Or.inl ⟨by rfl, ?_⟩) (by assumption) ?_
          rotate_left 1
          · (intro w' hSw; go_simp; try with_reducible rfl)
          try simp only [Act.put, List.setIfInBounds_toArray, List.set_cons_zero, List.set_cons_succ]
          refine wpAnyH_take (i := 9) (oi := ⟨some 81, _, _, _, _, _⟩) (v := ?_) rfl (by kernel_rfl) (by decide +kernel) (by decide +kernel) (fun _ _ _ h => h) (Or.inl ⟨by rfl, ?_⟩) (by assumption) ?_
          rotate_left 1
          · (intro w' hSw; go_simp; try with_reducible rfl)
          try simp only [Act.put, List.setIfInBounds_toArray, List.set_cons_zero, List.set_cons_succ]
          refine wpAnyH_take (i := 10) (oi := ⟨some 82, _, _, _, _, _⟩) (v := ?_) rfl (by kernel_rfl) (by decide +kernel) (by decide +kernel) (fun _ _ _ h => h) (Or.inl ⟨by rfl, ?_⟩) (by assumption) ?_
          rotate_left 1
          · (intro w' hSw; go_simp; try with_reducible rfl)
          try simp only [Act.put, List.setIfInBounds_toArray, List.set_cons_zero, List.set_cons_succ]
          refine wpAnyH_take (i := 11) (oi := ⟨some 83, _, _, _, _, _⟩) rfl (by kernel_rfl) (by decide +kernel) (by decide +kernel) (fun _ _ _ h => h) (yieldsIf_load_mid (by rfl) _ _ rfl (bx) 0 rfl (u8s (hashS l0)).toList _ (fun w' h => h.1) hu rfl hiX) (by assumption) ?_
          try simp only [Act.put, List.setIfInBounds_toArray, List.set_cons_zero, List.set_cons_succ, Array.toArray_toList]
          refine wpAnyH_take (i := 12) (oi := ⟨some 84, _, _, _, _, _⟩) (v := ?_) rfl (by kernel_rfl) (by decide +kernel) (by decide +kernel) (fun _ _ _ h => h) (Or.inl ⟨by rfl, ?_⟩) (by assumption) ?_
          rotate_left 1
          · (intro w' hSw; go_simp; try with_reducible rfl)
          try simp only [Act.put, List.setIfInBounds_toArray, List.set_cons_zero, List.set_cons_succ]
          refine wpAnyH_ready (rs := [13]) (by decide +kernel) (by simp) ?_
          refine AllReadyH.cons rfl (fun K hK => ?_) AllReadyH.nil
          go_simp
          go_at_call 11
          refine (SUMA.out W13.drew (Below.refl _ W13).drew).mono ?_
          rintro e w14 ⟨rfl, hb14⟩
          have Q14 := Lib.hid ((Below.refl W13.heap.size W13).drew.trans hb14)
          clear hb14
          go_wp2_with fail
          refine hK.out _ _ (HS.out _ Q14.out) (fun hHeld => ?_)
          clear hK K
          try simp only [Act.put, List.setIfInBounds_toArray, List.set_cons_zero, List.set_cons_succ]
          refine wpAnyH_take (i := 14) (oi := ⟨some 86, _, _, _, _, _⟩) (v := ?_) rfl (by kernel_rfl) (by decide +kernel) (by decide +kernel) (fun _ _ _ h => h) (Or.inl ⟨by rfl, ?_⟩) (by assumption) ?_
          rotate_left 1
          · (intro w' hSw; go_simp; try with_reducible rfl)
          try simp only [Act.put, List.setIfInBounds_toArray, List.set_cons_zero, List.set_cons_succ]
          refine wpAnyH_take (i := 15) (oi := ⟨some 87, _, _, _, _, _⟩) (v := ?_) rfl (by kernel_rfl) (by decide +kernel) (by decide +kernel) (fun _ _ _ h => h) (Or.inl ⟨by rfl, ?_⟩) (by assumption) ?_
          rotate_left 1
          · (intro w' hSw; go_simp; try with_reducible rfl)
          try simp only [Act.put, List.setIfInBounds_toArray, List.set_cons_zero, List.set_cons_succ]
          refine wpAnyH_take (i := 16) (oi := ⟨some 88, _, _, _, _, _⟩) (v := ?_) rfl (by kernel_rfl) (by decide +kernel) (by decide +kernel) (fun _ _ _ h => h) (Or.inl ⟨by rfl, ?_⟩) (by assumption) ?_
          rotate_left 1
          · (intro w' hSw; go_simp; try with_reducible rfl)
          try simp only [Act.put, List.setIfInBounds_toArray, List.set_cons_zero, List.set_cons_succ]
          refine wpAnyH_take (i := 17) (oi := ⟨some 89, _, _, _, _, _⟩) (v := ?_) rfl (by kernel_rfl) (by decide +kernel) (by decide +kernel) (fun _ _ _ h => h) (Or.inl ⟨by rfl, ?_⟩) (by assumption) ?_
          rotate_left 1
          · (intro w' hSw; go_simp; try with_reducible rfl)
          try simp only [Act.put, List.setIfInBounds_toArray, List.set_cons_zero, List.set_cons_succ]
          refine wpAnyH_take (i := 18) (oi := ⟨some 90, _, _, _, _, _⟩) (v := ?_) rfl (by kernel_rfl) (by decide +kernel) (by decide +kernel) (fun _ _ _ h => h) (Or.inl ⟨by rfl, ?_⟩) (by assumption) ?_
          rotate_left 1
          · (intro w' hSw; have hcv := conv_BS hSw.2.1; go_simp; try with_reducible rfl)
          try simp only [Act.put, List.setIfInBounds_toArray, List.set_cons_zero, List.set_cons_succ]
          refine wpAnyH_take (i := 19) (oi := ⟨some 91, _, _, _, _, _⟩) (v := ?_) rfl (by kernel_rfl) (by decide +kernel) (by decide +kernel) (fun _ _ _ h => h) (Or.inl ⟨by rfl, ?_⟩) (by assumption) ?_
          rotate_left 1
          · (intro w' hSw; go_simp; try with_reducible rfl)
          try simp only [Act.put, List.setIfInBounds_toArray, List.set_cons_zero, List.set_cons_succ]
          refine wpAnyH_take (i := 20) (oi := ⟨some 92, _, _, _, _, _⟩) (v := ?_) rfl (by kernel_rfl) (by decide +kernel) (by decide +kernel) (fun _ _ _ h => h) (Or.inl ⟨by rfl, ?_⟩) (by assumption) ?_
          rotate_left 1
          · (intro w' hSw; have hcv := conv_BS hSw.2.2; go_simp; try with_reducible rfl)
          try simp only [Act.put, List.setIfInBounds_toArray, List.set_cons_zero, List.set_cons_succ]
          refine wpAnyH_take (i := 21) (oi := ⟨some 93, _, _, _, _, _⟩) (v := ?_) rfl (by kernel_rfl) (by decide +kernel) (by decide +kernel) (fun _ _ _ h => h) (Or.inl ⟨by rfl, ?_⟩) (by assumption) ?_
          rotate_left 1
          · (intro w' hSw; go_simp; try with_reducible rfl)
          try simp only [Act.put, List.setIfInBounds_toArray, List.set_cons_zero, List.set_cons_succ]
          refine wpAnyH_take (i := 22) (oi := ⟨some 94, _, _, _, _, _⟩) (v := ?_) rfl (by kernel_rfl) (by decide +kernel) (by decide +kernel) (fun _ _ _ h => h) (Or.inl ⟨by rfl, ?_⟩) (by assumption) ?_
          rotate_left 1
          · (intro w' hSw; go_simp; try with_reducible rfl)
          try simp only [Act.put, List.setIfInBounds_toArray, List.set_cons_zero, List.set_cons_succ]
          refine wpAnyH_take (i := 23) (oi := ⟨some 4, _, _, _, _, _⟩) (v := ?_) rfl (by kernel_rfl) (by decide +kernel) (by decide +kernel) (fun _ _ _ h => h) (Or.inl ⟨by rfl, ?_⟩) (by assumption) ?_
          rotate_left 1
          · (intro w' hSw; go_simp; try with_reducible rfl)
          try simp only [Act.put, List.setIfInBounds_toArray, List.set_cons_zero, List.set_cons_succ]
          refine wpAnyH_done (by decide +kernel) ?_ _
          refine NoPanic.normal ?_
          go_wp2_with fail
          go_ret
          exact ⟨rfl, HT13.out.bel.trans (Q14.out.mono HT13.out.bel.size)⟩
set_option maxRecDepth 100000 in
theorem lifted (os : Os) (started : os.Started) (H : Type) (enc : TypeId × Value → H) :
    ReturnsInHanded {} Tryd.checked os 5 .any (fun w args => (Rows.shaWholeSpec.pre enc Tryd.prog Tryd.f5 [] false w args ∧ laidMetH Tryd.prog [("banyan/sha.roundNumbers", Rows.laid_banyan_sha_roundNumbers)] w) ∧ sizedMet enc Tryd.prog Tryd.f5 (OpenSpec.ofChange Rows.shaWholeSpec) false w args)
      (Rows.shaWholeSpec.post enc Tryd.prog Tryd.f5 false true false false) := by
  refine returnsInHanded_of_change_and (C := Tryd.checked) (X := fun w _ => laidMetH Tryd.prog [("banyan/sha.roundNumbers", Rows.laid_banyan_sha_roundNumbers)] w) (fun _ _ _ hh h => h.of_heap hh) own started (by kernel_rfl) Tryd.func5
    (ChangeSpec.witness_shaped (enc := enc) (C := Tryd.checked) (os := os) (X := fun w _ => laidMetH Tryd.prog [("banyan/sha.roundNumbers", Rows.laid_banyan_sha_roundNumbers)] w) false (World.doorLaid Tryd.prog 400 os) #[.slice none 0 0, .int .u16 0] 8 rfl (World.shaped_of_RefB (by kernel_rfl) (by kernel_rfl)) (by kernel_rfl) (by kernel_rfl) (by kernel_rfl) (door_met os _)) ?_
  intro W base args ds gs before hval0 hW _ hsz0 hL _
  have hval : ∀ (j : Nat) t v, Tryd.f5.params[j]? = some t → args[j]? = some v → Value.okWide Tryd.prog W .any base t v := hval0
  have hsz : (DataW.weightsEach Tryd.prog (Tryd.f5.params.toList ++ Rows.shaWholeSpec.plain.varTypes Tryd.prog) (ds ++ gs)).all (· ≤ reachBytes) = true := hsz0
  clear hsz0
  have hW' := hW
  obtain ⟨p, q, hA0, hV, rfl, hfz, hnd⟩ := hW
  have hA : DataW.TrodAll enc Tryd.prog W 0 (fun _ => true) true Tryd.f5.params.toList args.toList ds p := hA0
  rw [Tryd.params5] at hA hval hsz
  obtain ⟨v0, vs0, d0, ds0, p0, q0, hargs, rfl, rfl, h0, r0⟩ := trodAll_cons hA
  obtain ⟨v1, vs1, d1, ds1, p1, q1, rfl, rfl, rfl, h1, r1⟩ := trodAll_cons r0
  obtain ⟨rfl, rfl, rfl⟩ := trodAll_nil r1
  obtain rfl : args = #[v0, v1] := by cases args; simp_all
  obtain ⟨rfl, rfl⟩ := trodVars_none hV
  have k0 := h0
  have lt0 : ∀ x ∈ p0, x.block < W.heap.size := by obtain ⟨m, hm⟩ := k0; exact DataW.trod_lt m _ _ _ hm
  obtain ⟨a0, len0, cap0, l0, rfl, e0, b0, m0, n0⟩ := open_bs (hval 0 22 v0 rfl rfl) h0 (fun elems spare hd => sized_slice hsz (j := 0) (t := 22) (e := 5) rfl (by rw [hd]; rfl) Tryd.underlying22)
  obtain ⟨a1, rfl, rfl, rfl, w1⟩ := open_int Tryd.underlying43 (hval 1 43 v1 rfl rfl) h1
  obtain ⟨h10, h11⟩ : 0 ≤ a1 ∧ a1 ≤ 65535 := by
    have := w1
    simp [Lit.wf, IntKind.min, IntKind.max, IntKind.signed, IntKind.bits] at this
    omega
  have hK := of_laid hL
  clear hA0 hval0
  refine (walk W a0 len0 cap0 l0 e0 b0 m0 n0 a1 h10 h11 hK).mono fun e W' ⟨he, bel⟩ => ?_
  subst he
  exact ⟨_, rfl, _, _, _, [], _, [], hW', trodAll_mk1 (shut_bool Tryd.underlying4 _), (trodAll_cons_mk (Below.trod laidOut (by kernel_rfl) (of_decide_eq_true (by kernel_rfl)) k0 bel lt0) (trodAll_cons_mk (shut_int Tryd.underlying43 w1) trodAll_mk0)), rfl, bel.frame _, fun h => by cases h⟩

theorem over : Rows.ShaWholeSaid :=
  OpenClaim.holds_of_wide 5 Tryd.f5 rfl rfl rfl rfl rfl rfl rfl ⟨rfl, rfl, rfl, rfl, rfl⟩ rfl rfl rfl rfl rfl (by kernel_rfl) Tryd.func5 (by kernel_rfl)
    (of_decide_eq_true (by kernel_rfl)) (by unfold Func.isWrapper; first | (rw [if_pos (by decide +kernel)]; kernel_rfl) | (rw [if_neg (by decide +kernel)]; exact ⟨rfl, rfl⟩))
    (fun os started H enc _ => lifted os started H enc)

/-- The statement. -/
theorem proved : Rows.ShaWholeCardSaid :=
  Claim7.holds_tied_plain_at .later [] [.data] true (true, "698d5c1e6826afa017c479af1af08b78f97d30d96166054830822b4b50163390") false
    over (fun _ h => by cases h) (by kernel_rfl) (fun _ h => by cases h) shaWhole_row_tie rfl ⟨rfl, rfl⟩ (by kernel_rfl) rfl
    (fun f fn hf hfn => by
      obtain rfl : f = 5 := Option.some.inj ((show Tryd.prog.funcNamed "banyan/banyanlaw02.ShaWhole" = some 5 by kernel_rfl).symm.trans hf) |>.symm
      obtain rfl : fn = Tryd.f5 := (Option.some.inj (Tryd.func5.symm.trans hfn)).symm
      exact ⟨by kernel_rfl, fun j t ht => by
        rw [Tryd.params5] at ht
        have hm : t ∈ [22, 43] := by simpa using Array.mem_of_getElem? ht
        have hall : ([22, 43].all fun u => !Tryd.prog.wantsStandIn u) = true := by kernel_rfl
        exact (show Tryd.prog.wantsStandIn t = false by simpa using List.all_eq_true.1 hall t hm)⟩)
    (by kernel_rfl)
#print axioms proved
end Go.Proofs.YtinkjoghdajhkaaDoor.shaWhole
