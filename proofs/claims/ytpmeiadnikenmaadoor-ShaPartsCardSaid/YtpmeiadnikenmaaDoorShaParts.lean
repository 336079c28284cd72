/-
  'ShaParts' returns true at every input, and each argument reads behind the call as it read before. Conditions: the package-level variable that the row lists starts as the program's text lays it (the card ties that).
-/
import Derived.Test.YtpmeiadnikenmaaDoorLaid
import Derived.Test.YtpmeiadnikenmaaDoorCards
import Derived.Test.YtpmeiadnikenmaaDoorTie
import Derived.Test.YtpmeiadnikenmaaDoorRSum
import Derived.Test.YtpmeiadnikenmaaDoorParts
import Derived.Deep.DeepCutAuto
namespace Go.Proofs.YtpmeiadnikenmaaDoor.shaParts
open Go.ChangeShapes Go.WideShapes Go.ChangeAt Go.RowKit
open Go.ChangeMaps (open_string shut_string)
set_option linter.unusedVariables false

theorem own_grown {w w' : World} {base n b : Nat} {e : TypeId} {v : Value} {xs : List Value} (h : w.ownsRow base e 1 v n xs) (hb : w.grownBy w' (some b)) (hne : ∀ k, v.ownBlock = some k → k ≠ b) : w'.ownsRow base e 1 v n xs := by
  refine ⟨h.1, ?_⟩
  rcases h.2 with h2 | ⟨g, cap, cur, hv, hg, hh, r⟩
  · exact .inl h2
  · exact .inr ⟨g, cap, cur, hv, hg, by rw [hb.block g (lt_of_block hh) (fun e => hne g (by rw [hv]; rfl) (Option.some.inj e))]; exact hh, r⟩
theorem has_keep {w w' : World} {b : Nat} {s : List Int} {row : Option Nat} (h : Has w b s) (hg : w.grownBy w' row) (hne : some b ≠ row) : Has w' b s := by
  obtain ⟨st, rest, h1, h2⟩ := h
  exact ⟨st, rest, (hg.block b (lt_of_block h1) hne).trans h1, h2⟩

set_option maxRecDepth 100000 in
set_option maxHeartbeats 1600000 in
theorem walk (w : World) (a0 : Option Addr) (len0 cap0 : Nat) (vs0 : Nat → Value) (ls0 : List (List Int)) (e0 : ls0.length = len0) (z0 : len0 ≤ 140737488351232) (p0 : len0 = 0 ∨ ∃ P off, a0 = some ⟨P, off, none⟩ ∧ ∀ i, i < len0 → w.cell? ⟨P, off + i, none⟩ = some (vs0 i)) (q0 : ∀ i, i < len0 → ∃ ai ci, vs0 i = .slice ai (ls0.getD i []).length ci ∧ BS w (.slice ai (ls0.getD i []).length ci) (ls0.getD i []) ∧ (ls0.getD i []).length ≤ ci ∧ ci ≤ 140737488351232) (hK : KT w) :
    Calls Tryd.prog 4 #[.slice a0 len0 cap0] w fun e w' => e = .returned (.bool true) ∧ Below w.heap.size w w' := by
  have HK := Lib.hid hK
  have HPOS := Lib.hid hK.pos
  have HE := Lib.hid e0
  have HP := Lib.hid p0
  have HQ := Lib.hid q0
  have len0I : (len0 : Int) ≤ 140737488351232 := by omega
  have len00 : (0 : Int) ≤ (len0 : Int) := by omega
  clear hK e0 p0 q0
  by_cases hbig : 30 < len0
  · have hbI : (30 : Int) < (len0 : Int) := by omega
    have HBIG := Lib.hid hbig
    clear hbig
    go_enter Tryd.func4, Tryd.ntmps4
    go_wp2_with fail
    refine (alive2_any w HK.out).mono ?_
    rintro e w1 ⟨rfl, hb1⟩
    have HB1 := Lib.hid hb1
    clear hb1
    go_wp2_with fail
    go_loop [3, 17] (fun v3 v17 => ∃ (k : Nat) (s : Int), k ≤ len0 ∧ v17 = .int .i64 (k : Nat) ∧ v3 = .int .i64 s) (fun _ v => len0 - (intOf v).toNat)
    case atStart => exact ⟨0, 0, by omega, rfl, rfl⟩
    case round =>
      obtain ⟨k, s, hk, rfl, rfl⟩ := hrel
      by_cases hlt : k < len0
      · obtain ⟨P, off, rfl, hc⟩ := HP.out.resolve_left (by omega)
        obtain ⟨ai, ci, hvk, hbk, _, hcc⟩ := HQ.out k hlt
        have c1 := (HB1.out.cell (p := ⟨P, off + k, none⟩) (block_lt_of_cell (hc k hlt))).trans (hc k hlt)
        rw [hvk] at c1
        have kI : (k : Int) < (len0 : Int) := by omega
        have k0 : (0 : Int) ≤ (k : Int) := by omega
        clear hc hvk hbk
        go_wp2_with fail
        go_round
        case rel => exact ⟨k + 1, _, by omega, by go_num, rfl⟩
        case measure => simp [intOf]; omega
      · have hge : (len0 : Int) ≤ (k : Int) := by omega
        by_cases h6 : (600 : Int) < s
        · go_wp2_with fail
          go_ret
          exact ⟨rfl, HB1.out⟩
        · have h7 : s ≤ 600 := by omega
          clear h6
          go_wp2_with fail
          go_ret
          exact ⟨rfl, HB1.out⟩
  have hle : len0 ≤ 30 := by omega
  have hleI : (len0 : Int) ≤ 30 := by omega
  have HLE := Lib.hid hle
  clear hbig hle
  go_enter Tryd.func4, Tryd.ntmps4
  go_wp2_with fail
  refine (alive2_any w HK.out).mono ?_
  rintro e w1 ⟨rfl, hb1⟩
  have HB1 := Lib.hid hb1
  clear hb1
  go_wp2_with fail
  go_loop [3, 17] (fun v3 v17 => ∃ (k s : Nat), k ≤ len0 ∧ v17 = .int .i64 (k : Nat) ∧ v3 = .int .i64 (s : Nat) ∧ s = (ls0.take k).flatten.length ∧ s ≤ k * 140737488351232) (fun _ v => len0 - (intOf v).toNat)
  case atStart => exact ⟨0, 0, by omega, rfl, rfl, by simp, by omega⟩
  case round =>
    obtain ⟨k, s, hk, rfl, rfl, hs, hsb⟩ := hrel
    by_cases hlt : k < len0
    · obtain ⟨P, off, rfl, hc⟩ := HP.out.resolve_left (by omega)
      obtain ⟨ai, ci, hvk, hbk, hlc, hcc⟩ := HQ.out k hlt
      have c1 := (HB1.out.cell (p := ⟨P, off + k, none⟩) (block_lt_of_cell (hc k hlt))).trans (hc k hlt)
      rw [hvk] at c1
      have kI : (k : Int) < (len0 : Int) := by omega
      have k0 : (0 : Int) ≤ (k : Int) := by omega
      have hft := flat_take ls0 k (by rw [HE.out]; exact hlt)
      have hsn : s + (ls0.getD k []).length = (ls0.take (k + 1)).flatten.length := by rw [hft, List.length_append, hs]
      have HSN := Lib.hid hsn
      generalize (ls0.getD k []).length = n at *
      have hk30 : k ≤ 30 := by have := HLE.out; omega
      have hn : n ≤ 140737488351232 := by omega
      have hsI : (s : Int) ≤ 4222124650540560 := by omega
      have hnI : (n : Int) ≤ 140737488351232 := by omega
      have HSB := Lib.hid (show s + n ≤ (k + 1) * 140737488351232 by omega)
      clear hc hvk hbk hft hsn hs hsb hlc hcc hn hk30
      go_wp2_with fail
      go_round
      case rel => exact ⟨k + 1, s + n, by omega, by go_num, by go_num, HSN.out, HSB.out⟩
      case measure => simp [intOf]; omega
    · obtain rfl : len0 = k := by omega
      have hsI : (s : Int) ≤ 4222124650540560 := by have := HLE.out; omega
      rw [List.take_of_length_le (by rw [HE.out]; exact Nat.le_refl _)] at hs
      by_cases h6 : 600 < s
      · have h6I : (600 : Int) < (s : Int) := by omega
        clear hs hsb h6
        go_wp2_with fail
        go_ret
        exact ⟨rfl, HB1.out⟩
      · have h6I : (s : Int) ≤ 600 := by omega
        have HS := Lib.hid (show ls0.flatten.length ≤ 600 by omega)
        clear hs hsb h6 hlt hk
        go_wp2_with fail
        refine (made_any _).mono ?_
        rintro e w2 ⟨⟨g1, c1, g2, c2, rfl, hM⟩, hb2⟩
        have HM2 := Lib.hid hM
        have HB2 := Lib.hid (HB1.out.trans (hb2.mono HB1.out.size))
        clear hM hb2
        go_wp2_with fail
        refine (new_any _).mono ?_
        rintro e w4 ⟨h, rfl, hh, hhl, hb4⟩
        have hC3 := heap_alloc_new w2 (.cells #[.slice (some ⟨g1, 0, none⟩) 8 c1, .slice (some ⟨g2, 0, none⟩) 64 c2] 32)
        have hb3 := (Below.refl w2.heap.size w2).alloc (Nat.le_refl _) (.cells #[.slice (some ⟨g1, 0, none⟩) 8 c1, .slice (some ⟨g2, 0, none⟩) 64 c2] 32)
        have hz3 : (w2.alloc (.cells #[.slice (some ⟨g1, 0, none⟩) 8 c1, .slice (some ⟨g2, 0, none⟩) 64 c2] 32)).heap.size = w2.heap.size + 1 := by simp
        have HBW3 := Lib.hid (HB2.out.trans (hb3.mono HB2.out.size))
        have hM3 := HM2.out.kept hb3
        generalize w2.alloc (.cells #[.slice (some ⟨g1, 0, none⟩) 8 c1, .slice (some ⟨g2, 0, none⟩) 64 c2] 32) = W3 at *
        have HC3 := Lib.hid hC3
        have HM3 := Lib.hid hM3
        have HZ3 := Lib.hid (show w2.heap.size < W3.heap.size by omega)
        have HK3 := Lib.hid (HK.out.below HBW3.out HPOS.out)
        have HH4 := Lib.hid hh
        have HHL := Lib.hid hhl
        have HB4 := Lib.hid hb4
        have HLT4 := Lib.hid hh.lt
        clear hC3 hb3 hz3 hM3 hh hhl hb4
        generalize w2.heap.size = CC at *
        go_wp2_with fail
        go_loopw [8, 37] (fun v8 v37 wr => ∃ (k m : Nat) (a : Option Addr) (c : Nat), k ≤ len0 ∧ v37 = .int .i64 (k : Nat) ∧ m = (ls0.take k).flatten.length ∧ v8 = .slice a m c ∧ wr.ownsRow w4.heap.size 5 1 (.slice a m c) m ((ls0.take k).flatten.map (.int .u8)) ∧ Byt (ls0.take k).flatten ∧ Has wr h (ls0.take k).flatten ∧ w4.heap.size ≤ wr.heap.size ∧ Below W3.heap.size W3 wr) (fun _ v _ => len0 - (intOf v).toNat)
        case atStart => exact ⟨0, 0, none, 0, by omega, rfl, by simp, rfl, World.ownsRow_nil _ _ _ _, by intro z hz; simp at hz, by simpa using HH4.out, Nat.le_refl _, HB4.out⟩
        case round =>
          obtain ⟨k, m, a, c, hk, rfl, hm, rfl, ho, hy, hh, hsz, hbe⟩ := hrel
          by_cases hlt : k < len0
          · obtain ⟨P, off, rfl, hc⟩ := HP.out.resolve_left (by omega)
            obtain ⟨ai, ci, hvk, hbk, hlc, hcc⟩ := HQ.out k hlt
            have hbw := HBW3.out.trans (hbe.mono HBW3.out.size)
            have cc := (hbw.cell (p := ⟨P, off + k, none⟩) (block_lt_of_cell (hc k hlt))).trans (hc k hlt)
            rw [hvk] at cc
            have hft := flat_take ls0 k (by rw [HE.out]; exact hlt)
            have hle6 := flat_le ls0 (k + 1)
            have hbyk := hbk.byt
            generalize hL : ls0.getD k [] = L at *
            have kI : (k : Int) < (len0 : Int) := by omega
            have k0 : (0 : Int) ≤ (k : Int) := by omega
            have hkt := HK3.out.below hbe HK3.out.pos
            have hlen : (ls0.take k).flatten.length + L.length ≤ 600 := by
              rw [hft, List.length_append] at hle6
              have := HS.out
              omega
            have hwr := write_any h (ls0.take k).flatten L (.slice ai L.length ci) wr hh hkt (by have := HHL.out; have := HK3.out.pos; omega) (hbk.kept hbw) (room_of _ _ _ hlc (by omega)) (hbk.off_new (by have := HBW3.out.size; have := HHL.out; omega)) (by omega)
            rw [← hft] at hwr
            have HW := Lib.hid hwr
            have HFT := Lib.hid hft
            have HO := Lib.hid ho
            have HBE := Lib.hid hbe
            have HSZ := Lib.hid hsz
            have HMM := Lib.hid hm
            have HBK := Lib.hid hbk
            have HYY := Lib.hid (show Byt (ls0.take (k + 1)).flatten by rw [hft]; exact byt_app hy hbyk)
            have HLEN := Lib.hid hlen
            have HLT := Lib.hid hlt
            have mI : (m : Int) ≤ 600 := by omega
            clear hc hvk hbk hlc hcc hbw hft hle6 hbyk hL hkt hlen hwr hh ho hy hsz hbe hm hlt hk
            go_wp2_with fail
            refine HW.out.mono ?_
            rintro e w5 ⟨rfl, hr5, hg5⟩
            have HR5 := Lib.hid hr5
            have HO5 := Lib.hid (own_grown HO.out hg5 (fun q hq => by have h1 := (HO.out.lt q hq).1; have h2 := HLT4.out; omega))
            have HB5 := Lib.hid (HBE.out.grown hg5 HBE.out.size (fun q hq => by have h1 : h = q := Option.some.inj hq; have := HHL.out; omega))
            have HL5 := Lib.hid (HBK.out.kept (HBW3.out.trans (HB5.out.mono HBW3.out.size)))
            have HS5 := Lib.hid (Nat.le_trans HSZ.out hg5.size)
            clear hr5 hg5
            go_upto_region 20 with (first
              | (at_builtin; (with_reducible refine wpList_append_BS (o := ⟨some 47, _, _, _, _, _⟩) rfl _ _ rfl w4.heap.size (.slice a m c) m ((ls0.take k).flatten.map (.int .u8)) rfl HO5.out (.slice ai L.length ci) L rfl HL5.out (by have := HLEN.out; omega) HS5.out ?_); intro v6 w6 ho6 hg6; (rw [← List.map_append, ← HFT.out] at ho6); obtain ⟨a6, c6, rfl, _⟩ := own_shape ho6; have HO6 := Lib.hid ho6; have HG6 := Lib.hid hg6; clear ho6 hg6))
            have hne6 : some h ≠ (Value.slice a m c).ownBlock := by
              intro e
              have h1 := (HO5.out.lt h e.symm).1
              have h2 := HLT4.out
              omega
            have HH6 := Lib.hid (has_keep HR5.out.has HG6.out hne6)
            have HB6 := Lib.hid (HB5.out.grown HG6.out HB5.out.size (fun q hq => by have h1 := (HO5.out.lt q hq).1; have h2 := HLT4.out; have h3 := HHL.out; omega))
            have HS6 := Lib.hid (Nat.le_trans HS5.out HG6.out.size)
            have HK6 := Lib.hid (HK3.out.below HB6.out HK3.out.pos)
            have HSUM := Lib.hid (sum_any h (ls0.take (k + 1)).flatten w6 HH6.out HK6.out (by rw [HFT.out, List.length_append]; have := HLEN.out; omega))
            have HNM := Lib.hid (show m + L.length = (ls0.take (k + 1)).flatten.length by rw [HFT.out, List.length_append, HMM.out])
            have HN6 := Lib.hid (show (ls0.take (k + 1)).flatten.length ≤ 600 by rw [HFT.out, List.length_append]; exact HLEN.out)
            clear hne6 HO5 HG6 HR5 HL5 HB5 HS5 HW HO HBE HSZ
            obtain ⟨n, hn⟩ : ∃ n, n = m + L.length := ⟨_, rfl⟩
            have HO7 := HO6.out
            rw [← hn] at HO7 HNM ⊢
            have HO6 := Lib.hid HO7
            have nI : (n : Int) ≤ 600 := by have h1 := HNM.out; have h2 := HN6.out; omega
            have n0 : (0 : Int) ≤ (n : Int) := by omega
            clear HO7 hn HMM HFT HLEN mI
            generalize hT : (ls0.take (k + 1)).flatten = T at *
            have HTE := Lib.hid hT
            clear hT
            go_wp2_with fail
            refine HSUM.out.mono ?_
            rintro e w7 ⟨rfl, hb7⟩
            have HH7 := Lib.hid (HH6.out.below hb7 HH6.out.lt)
            have HB7 := Lib.hid (HB6.out.trans (hb7.mono HB6.out.size))
            have HO7 := Lib.hid (own_below HO6.out hb7)
            have HS7 := Lib.hid (Nat.le_trans HS6.out hb7.size)
            have hXl := hashS_length T
            have hXy := hashS_byt T
            have SH := Lib.hid (size_h32 (hashS T) hXl)
            have SE := Lib.hid (show (u8s (List.replicate 32 0)).size = (u8s (hashS T)).size by rw [u8s_size, u8s_size, hXl]; rfl)
            clear hb7 HH6 HB6 HO6 HS6 HK6 HSUM
            go_upto_region 21 with (first
              | (with_reducible refine wpList_store_row (o := ⟨none, .store _ (.tmp 11) _, _, _, _, _⟩) rfl 24 _ _ rfl w7.heap.size (u8s (hashS T)) rfl rfl 24 _ (heap_alloc_new w7 _) SH.out ?c1 (u8s_one _) ?_))
            case c1 => exact SE.out
            generalize hW8 : World.setRow _ w7.heap.size _ = W8
            obtain ⟨r8, z8, b8⟩ := fresh_row w7 (u8s (List.replicate 32 0)) (u8s (hashS T)) 24 W8 hW8.symm
            clear hW8
            have HX8 := Lib.hid (show ArrB W8 w7.heap.size 24 (hashS T) from r8)
            have HH8 := Lib.hid (HH7.out.below b8 HH7.out.lt)
            have HB8 := Lib.hid (HB7.out.trans (b8.mono HB7.out.size))
            have HO8 := Lib.hid (own_below HO7.out b8)
            have HS8 := Lib.hid (Nat.le_trans HS7.out b8.size)
            clear r8 z8 b8 HH7 HB7 HO7 HS7
            generalize w7.heap.size = bx at *
            have HC8 := Lib.hid ((HB8.out.block CC HZ3.out).trans HC3.out)
            have HM8 := Lib.hid (HM3.out.kept HB8.out)
            have hbT := BS.of_own HO8.out HNM.out.symm HYY.out
            have HWITH := Lib.hid (fun (W : World) (hb : Below W8.heap.size W8 W) => rwith_any T (.slice a6 n c6) g1 c1 g2 c2 W (HM8.out.kept hb) (hbT.kept hb) (by have := HN6.out; omega))
            have HLENV := Lib.hid (fun (W : World) (hb : Below W8.heap.size W8 W) => len_any h T W (HH8.out.below hb HH8.out.lt))
            have heX := eq_hash_same (hashS T) (hashS_length _) (hashS_byt _)
            have hiX : (Tryd.prog.info? 24).map (·.size) = some (u8s (hashS T)).toList.length := by rw [info_h32, Array.length_toList, u8s_size, hashS_length]
            have hu := Tryd.underlying24
            have hiC : (Tryd.prog.info? 32).map (·.size) = some (#[Value.slice (some ⟨g1, 0, none⟩) 8 c1, .slice (some ⟨g2, 0, none⟩) 64 c2] : Array Value).toList.length := by kernel_rfl
            have huC := Tryd.underlying32
            have hgC : ∀ W : World, Below W8.heap.size W8 W → W.rangeAt CC 0 (#[Value.slice (some ⟨g1, 0, none⟩) 8 c1, .slice (some ⟨g2, 0, none⟩) 64 c2] : Array Value).toList := fun W hb j v hv => by
              rw [Nat.zero_add, cell_of_row _ _ _ _ _ _ ((hb.block CC (lt_of_block HC8.out)).trans HC8.out), ← Array.getElem?_toList]
              exact hv
            have HGC := Lib.hid hgC
            have hln : ((T.length : Nat) : Int) = (n : Int) := by rw [HNM.out]
            clear hXl hXy hbT hgC
            go_wp2_with fail
            refine wp_region_noPanic ?_
            refine wp_region_held_drew (S := fun w' => w'.rangeAt bx 0 (u8s (hashS T)).toList ∧ w'.rangeAt CC 0 (#[Value.slice (some ⟨g1, 0, none⟩) 8 c1, .slice (some ⟨g2, 0, none⟩) 64 c2] : Array Value).toList) (by kernel_rfl) ⟨HX8.out.range, HGC.out _ (Below.refl _ W8).drew⟩ (fun hHeld => ?_)
            refine wpAnyH_take (i := 0) (oi := ⟨some 53, _, _, _, _, _⟩) (v := ?_) rfl (by kernel_rfl) (by decide +kernel) (by decide +kernel) (fun _ _ _ h => h) (Or.inl ⟨by rfl, ?_⟩) (by assumption) ?_
            rotate_left 1
            · (intro w' hSw; go_simp; try with_reducible rfl)
            try simp only [Act.put, List.setIfInBounds_toArray, List.set_cons_zero, List.set_cons_succ]
            refine wpAnyH_take (i := 1) (oi := ⟨some 54, _, _, _, _, _⟩) (v := ?_) rfl (by kernel_rfl) (by decide +kernel) (by decide +kernel) (fun _ _ _ h => h) (Or.inl ⟨by rfl, ?_⟩) (by assumption) ?_
            rotate_left 1
            · (intro w' hSw; go_simp; try with_reducible rfl)
            try simp only [Act.put, List.setIfInBounds_toArray, List.set_cons_zero, List.set_cons_succ]
            refine wpAnyH_take (i := 2) (oi := ⟨some 55, _, _, _, _, _⟩) (v := ?_) rfl (by kernel_rfl) (by decide +kernel) (by decide +kernel) (fun _ _ _ h => h) (Or.inl ⟨by rfl, ?_⟩) (by assumption) ?_
            rotate_left 1
            · (intro w' hSw; go_simp; try with_reducible rfl)
            try simp only [Act.put, List.setIfInBounds_toArray, List.set_cons_zero, List.set_cons_succ]
            refine wpAnyH_take (i := 3) (oi := ⟨some 56, _, _, _, _, _⟩) rfl (by kernel_rfl) (by decide +kernel) (by decide +kernel) (fun _ _ _ h => h) (yieldsIf_load_mid (by rfl) _ _ rfl (bx) 0 rfl (u8s (hashS T)).toList _ (fun w' h => h.1) hu rfl hiX) (by assumption) ?_
            try simp only [Act.put, List.setIfInBounds_toArray, List.set_cons_zero, List.set_cons_succ, Array.toArray_toList]
            refine wpAnyH_take (i := 4) (oi := ⟨some 57, _, _, _, _, _⟩) rfl (by kernel_rfl) (by decide +kernel) (by decide +kernel) (fun _ _ _ h => h) (yieldsIf_load_mid (by rfl) _ _ rfl CC 0 rfl (#[Value.slice (some ⟨g1, 0, none⟩) 8 c1, .slice (some ⟨g2, 0, none⟩) 64 c2] : Array Value).toList _ (fun w' h => h.2) huC rfl hiC) (by assumption) ?_
            try simp only [Act.put, List.setIfInBounds_toArray, List.set_cons_zero, List.set_cons_succ, Array.toArray_toList]
            refine wpAnyH_take (i := 5) (oi := ⟨some 58, _, _, _, _, _⟩) (v := ?_) rfl (by kernel_rfl) (by decide +kernel) (by decide +kernel) (fun _ _ _ h => h) (Or.inl ⟨by rfl, ?_⟩) (by assumption) ?_
            rotate_left 1
            · (intro w' hSw; go_simp; try with_reducible rfl)
            try simp only [Act.put, List.setIfInBounds_toArray, List.set_cons_zero, List.set_cons_succ]
            refine wpAnyH_ready (rs := [6]) (by decide +kernel) (by simp) ?_
            refine AllReadyH.cons rfl (fun K hK => ?_) AllReadyH.nil
            go_simp
            go_at_call 21
            refine (HWITH.out W8.drew (Below.refl _ W8).drew).mono ?_
            rintro e w9 ⟨rfl, hb9⟩
            have Q9 := Lib.hid ((Below.refl W8.heap.size W8).drew.trans hb9)
            clear hb9
            go_wp2_with fail
            refine hK.out _ _ (⟨(HX8.out.below Q9.out HX8.out.lt).range, HGC.out _ Q9.out⟩) (fun hHeld => ?_)
            clear hK K
            try simp only [Act.put, List.setIfInBounds_toArray, List.set_cons_zero, List.set_cons_succ]
            refine wpAnyH_take (i := 7) (oi := ⟨some 60, _, _, _, _, _⟩) (v := ?_) rfl (by kernel_rfl) (by decide +kernel) (by decide +kernel) (fun _ _ _ h => h) (Or.inl ⟨by rfl, ?_⟩) (by assumption) ?_
            rotate_left 1
            · (intro w' hSw; go_simp; try with_reducible rfl)
            try simp only [Act.put, List.setIfInBounds_toArray, List.set_cons_zero, List.set_cons_succ]
            refine wpAnyH_take (i := 8) (oi := ⟨some 61, _, _, _, _, _⟩) (v := ?_) rfl (by kernel_rfl) (by decide +kernel) (by decide +kernel) (fun _ _ _ h => h) (Or.inl ⟨by rfl, ?_⟩) (by assumption) ?_
            rotate_left 1
            · (intro w' hSw; go_simp; try with_reducible rfl)
            try simp only [Act.put, List.setIfInBounds_toArray, List.set_cons_zero, List.set_cons_succ]
            refine wpAnyH_take (i := 9) (oi := ⟨some 62, _, _, _, _, _⟩) (v := ?_) rfl (by kernel_rfl) (by decide +kernel) (by decide +kernel) (fun _ _ _ h => h) (Or.inl ⟨by rfl, ?_⟩) (by assumption) ?_
            rotate_left 1
            · (intro w' hSw; go_simp; try with_reducible rfl)
            try simp only [Act.put, List.setIfInBounds_toArray, List.set_cons_zero, List.set_cons_succ]
            refine wpAnyH_take (i := 10) (oi := ⟨some 63, _, _, _, _, _⟩) (v := ?_) rfl (by kernel_rfl) (by decide +kernel) (by decide +kernel) (fun _ _ _ h => h) (Or.inl ⟨by rfl, ?_⟩) (by assumption) ?_
            rotate_left 1
            · (intro w' hSw; go_simp; try with_reducible rfl)
            try simp only [Act.put, List.setIfInBounds_toArray, List.set_cons_zero, List.set_cons_succ]
            refine wpAnyH_take (i := 12) (oi := ⟨some 65, _, _, _, _, _⟩) (v := ?_) rfl (by kernel_rfl) (by decide +kernel) (by decide +kernel) (fun _ _ _ h => h) (Or.inl ⟨by rfl, ?_⟩) (by assumption) ?_
            rotate_left 1
            · (intro w' hSw; go_simp; try with_reducible rfl)
            try simp only [Act.put, List.setIfInBounds_toArray, List.set_cons_zero, List.set_cons_succ]
            refine wpAnyH_take (i := 13) (oi := ⟨some 66, _, _, _, _, _⟩) (v := ?_) rfl (by kernel_rfl) (by decide +kernel) (by decide +kernel) (fun _ _ _ h => h) (Or.inl ⟨by rfl, ?_⟩) (by assumption) ?_
            rotate_left 1
            · (intro w' hSw; go_simp; try with_reducible rfl)
            try simp only [Act.put, List.setIfInBounds_toArray, List.set_cons_zero, List.set_cons_succ]
            refine wpAnyH_ready (rs := [11]) (by decide +kernel) (by simp) ?_
            refine AllReadyH.cons rfl (fun K hK => ?_) AllReadyH.nil
            go_simp
            go_at_call 22
            refine (HLENV.out w9 Q9.out).mono ?_
            rintro e w10 ⟨rfl, rfl⟩
            go_wp2_with fail
            refine hK.out _ _ (⟨(HX8.out.below Q9.out HX8.out.lt).range, HGC.out _ Q9.out⟩) (fun hHeld => ?_)
            clear hK K
            try simp only [Act.put, List.setIfInBounds_toArray, List.set_cons_zero, List.set_cons_succ]
            refine wpAnyH_take (i := 14) (oi := ⟨some 67, _, _, _, _, _⟩) (v := ?_) rfl (by kernel_rfl) (by decide +kernel) (by decide +kernel) (fun _ _ _ h => h) (Or.inl ⟨by rfl, ?_⟩) (by assumption) ?_
            rotate_left 1
            · (intro w' hSw; go_simp; try with_reducible rfl)
            try simp only [Act.put, List.setIfInBounds_toArray, List.set_cons_zero, List.set_cons_succ]
            refine wpAnyH_take (i := 15) (oi := ⟨some 68, _, _, _, _, _⟩) (v := ?_) rfl (by kernel_rfl) (by decide +kernel) (by decide +kernel) (fun _ _ _ h => h) (Or.inl ⟨by rfl, ?_⟩) (by assumption) ?_
            rotate_left 1
            · (intro w' hSw; go_simp; try with_reducible rfl)
            try simp only [Act.put, List.setIfInBounds_toArray, List.set_cons_zero, List.set_cons_succ]
            refine wpAnyH_done (by decide +kernel) ?_ _
            refine NoPanic.normal ?_
            go_wp2_with fail
            go_roundw
            case rel => exact ⟨k + 1, n, a6, c6, by have := HLT.out; omega, by go_num, by rw [HTE.out]; exact HNM.out, rfl, by rw [HTE.out]; exact own_below HO8.out Q9.out, by rw [HTE.out]; exact HYY.out, by rw [HTE.out]; exact HH8.out.below Q9.out HH8.out.lt, Nat.le_trans HS8.out Q9.out.size, HB8.out.trans (Q9.out.mono HB8.out.size)⟩
            case measure => simp [intOf]; have := HLT.out; omega
          · have hge : (len0 : Int) ≤ (k : Int) := by omega
            have HBE := Lib.hid (HBW3.out.trans (hbe.mono HBW3.out.size))
            clear ho hy hh hsz hbe hm hlt hk
            go_wp2_with fail
            go_ret
            exact ⟨rfl, HBE.out⟩
set_option maxRecDepth 100000 in
theorem lifted (os : Os) (started : os.Started) (H : Type) (enc : TypeId × Value → H) :
    ReturnsInHanded {} Tryd.checked os 4 .any (fun w args => (Rows.shaPartsSpec.pre enc Tryd.prog Tryd.f4 [] false w args ∧ laidMetH Tryd.prog [("banyan/sha.roundNumbers", Rows.laid_banyan_sha_roundNumbers)] w) ∧ sizedMet enc Tryd.prog Tryd.f4 (OpenSpec.ofChange Rows.shaPartsSpec) false w args)
      (Rows.shaPartsSpec.post enc Tryd.prog Tryd.f4 false true false false) := by
  refine returnsInHanded_of_change_and (C := Tryd.checked) (X := fun w _ => laidMetH Tryd.prog [("banyan/sha.roundNumbers", Rows.laid_banyan_sha_roundNumbers)] w) (fun _ _ _ hh h => h.of_heap hh) own started (by kernel_rfl) Tryd.func4
    (ChangeSpec.witness_shaped (enc := enc) (C := Tryd.checked) (os := os) (X := fun w _ => laidMetH Tryd.prog [("banyan/sha.roundNumbers", Rows.laid_banyan_sha_roundNumbers)] w) false (World.doorLaid Tryd.prog 400 os) #[.slice none 0 0] 8 rfl (World.shaped_of_RefB (by kernel_rfl) (by kernel_rfl)) (by kernel_rfl) (by kernel_rfl) (by kernel_rfl) (door_met os _)) ?_
  intro W base args ds gs before hval0 hW _ hsz0 hL _
  have hval : ∀ (j : Nat) t v, Tryd.f4.params[j]? = some t → args[j]? = some v → Value.okWide Tryd.prog W .any base t v := hval0
  have hsz : (DataW.weightsEach Tryd.prog (Tryd.f4.params.toList ++ Rows.shaPartsSpec.plain.varTypes Tryd.prog) (ds ++ gs)).all (· ≤ reachBytes) = true := hsz0
  clear hsz0
  have hW' := hW
  obtain ⟨p, q, hA0, hV, rfl, hfz, hnd⟩ := hW
  have hA : DataW.TrodAll enc Tryd.prog W 0 (fun _ => true) true Tryd.f4.params.toList args.toList ds p := hA0
  rw [Tryd.params4] at hA hval hsz
  obtain ⟨v0, vs0, d0, ds0, p0, q0, hargs, rfl, rfl, h0, r0⟩ := trodAll_cons hA
  obtain ⟨rfl, rfl, rfl⟩ := trodAll_nil r0
  obtain rfl : args = #[v0] := by cases args; simp_all
  obtain ⟨rfl, rfl⟩ := trodVars_none hV
  have k0 := h0
  have lt0 : ∀ x ∈ p0, x.block < W.heap.size := by obtain ⟨m, hm⟩ := k0; exact DataW.trod_lt m _ _ _ hm
  obtain ⟨a0, len0, cap0, vs0, ls0, rfl, e0, z0, p0, q0⟩ := open_parts (hval 0 29 v0 rfl rfl) h0 hsz
  have hK := of_laid hL
  clear hA0 hval0
  refine (walk W a0 len0 cap0 vs0 ls0 e0 z0 p0 q0 hK).mono fun e W' ⟨he, bel⟩ => ?_
  subst he
  exact ⟨_, rfl, _, _, _, [], _, [], hW', trodAll_mk1 (shut_bool Tryd.underlying4 _), (trodAll_cons_mk (Below.trod laidOut (by kernel_rfl) (of_decide_eq_true (by kernel_rfl)) k0 bel lt0) trodAll_mk0), rfl, bel.frame _, fun h => by cases h⟩

theorem over : Rows.ShaPartsSaid :=
  OpenClaim.holds_of_wide 4 Tryd.f4 rfl rfl rfl rfl rfl rfl rfl ⟨rfl, rfl, rfl, rfl, rfl⟩ rfl rfl rfl rfl rfl (by kernel_rfl) Tryd.func4 (by kernel_rfl)
    (of_decide_eq_true (by kernel_rfl)) (by unfold Func.isWrapper; first | (rw [if_pos (by decide +kernel)]; kernel_rfl) | (rw [if_neg (by decide +kernel)]; exact ⟨rfl, rfl⟩))
    (fun os started H enc _ => lifted os started H enc)

/-- The statement. -/
theorem proved : Rows.ShaPartsCardSaid :=
  Claim7.holds_tied_plain_at .later [] [.data] true (true, "e0374d2ffff8b996aa7eb96177f9d43dd083ddb5548ca805c513efc6b04d9a8e") false
    over (fun _ h => by cases h) (by kernel_rfl) (fun _ h => by cases h) shaParts_row_tie rfl ⟨rfl, rfl⟩ (by kernel_rfl) rfl
    (fun f fn hf hfn => by
      obtain rfl : f = 4 := Option.some.inj ((show Tryd.prog.funcNamed "banyan/banyanlaw02.ShaParts" = some 4 by kernel_rfl).symm.trans hf) |>.symm
      obtain rfl : fn = Tryd.f4 := (Option.some.inj (Tryd.func4.symm.trans hfn)).symm
      exact ⟨by kernel_rfl, fun j t ht => by
        rw [Tryd.params4] at ht
        have hm : t ∈ [29] := by simpa using Array.mem_of_getElem? ht
        have hall : ([29].all fun u => !Tryd.prog.wantsStandIn u) = true := by kernel_rfl
        exact (show Tryd.prog.wantsStandIn t = false by simpa using List.all_eq_true.1 hall t hm)⟩)
    (by kernel_rfl)
#print axioms proved
end Go.Proofs.YtpmeiadnikenmaaDoor.shaParts
