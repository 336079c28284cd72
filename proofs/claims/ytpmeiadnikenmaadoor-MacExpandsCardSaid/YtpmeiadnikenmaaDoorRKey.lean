/-
  The reference's codes: a key as 64 bytes, each byte turned.
-/
import Derived.Test.YtpmeiadnikenmaaDoorRSum
import Derived.Test.YtpmeiadnikenmaaDoorCode
namespace Go.Proofs.YtpmeiadnikenmaaDoor
open Go.RowKit

/-- Bytes turned up to one, then noughts. -/
def padQ (b : List Int) (p : Int) (n : Nat) : List Int := (List.range b.length).map fun j => if j < n then xb (b.getD j 0) p else 0
theorem padQ_length (b : List Int) (p : Int) (n : Nat) : (padQ b p n).length = b.length := by simp [padQ]
theorem padQ_zero (b : List Int) (p : Int) : padQ b p 0 = List.replicate b.length 0 := by
  rw [List.eq_replicate_iff]
  refine ⟨by simp [padQ], fun z hz => ?_⟩
  simp only [padQ, List.mem_map] at hz
  obtain ⟨j, _, rfl⟩ := hz
  simp
theorem padQ_full (b : List Int) (p : Int) : padQ b p b.length = padS b p := by
  apply List.ext_getElem (by simp [padQ, padS])
  intro j h1 h2
  have : j < b.length := by simpa [padS] using h2
  simp [padQ, padS, this]
theorem padQ_set (b : List Int) (p : Int) (n : Nat) : (padQ b p n).set n (xb (b.getD n 0) p) = padQ b p (n + 1) := by
  apply List.ext_getElem (by simp [padQ])
  intro j h1 h2
  rw [List.getElem_set]
  simp only [padQ, List.getElem_map, List.getElem_range]
  by_cases hj : n = j
  · subst hj; simp
  · rw [if_neg hj]
    by_cases hl : j < n
    · rw [if_pos hl, if_pos (by omega)]
    · rw [if_neg hl, if_neg (by omega)]
theorem make_64 (w : World) : (Instr.makeSlice 22 (.int .i64 64) (.int .i64 64)).run Tryd.prog w = .ok (.slice (some ⟨w.heap.size, 0, none⟩) 64 64) (w.alloc (.cells (u8s (List.replicate 64 0)) 5)) :=
  make_u8 64 64 (Nat.le_refl _) (by omega) w

set_option maxRecDepth 100000 in
set_option maxHeartbeats 1600000 in
theorem rturned_any (kb : List Int) (p : Int) (g c : Nat) (w : World) (hk : kb.length = 64) (hc : ∀ i, i < 64 → w.cell? ⟨g, i, none⟩ = some (.int .u8 (kb.getD i 0))) :
    Calls Tryd.prog 53 #[.slice (some ⟨g, 0, none⟩) 64 c, .int .u8 p] w fun e w' => e = .returned (.slice (some ⟨w.heap.size, 0, none⟩) 64 64) ∧ w'.ownsRow w.heap.size 5 1 (.slice (some ⟨w.heap.size, 0, none⟩) 64 64) 64 ((padS kb p).map (.int .u8)) ∧ Below w.heap.size w w' := by
  have HC := Lib.hid hc
  have HKL := Lib.hid hk
  have hmk := make_64
  clear hc hk
  go_enter Tryd.func53, Tryd.ntmps53
  go_wp2_with fail
  have hO := heap_alloc_new w (.cells (u8s (List.replicate 64 0)) 5)
  have hb := (Below.refl w.heap.size w).alloc (Nat.le_refl _) (.cells (u8s (List.replicate 64 0)) 5)
  refine (show ∀ W1 : World, W1 = w.alloc (.cells (u8s (List.replicate 64 0)) 5) → _ from ?_) _ rfl
  intro W1 eW
  rw [← eW] at hO hb
  have HO := Lib.hid (show ArrB W1 w.heap.size 5 (List.replicate 64 0) from hO)
  have HB := Lib.hid hb
  clear eW hO hb hmk
  go_loopw [12] (fun v12 wr => ∃ i : Nat, i ≤ 64 ∧ v12 = .int .i64 (i : Nat) ∧ ArrB wr w.heap.size 5 (padQ kb p i) ∧ Below w.heap.size w wr) (fun v _ => 64 - (intOf v).toNat)
  case atStart => exact ⟨0, by omega, rfl, by rw [padQ_zero, HKL.out]; exact HO.out, HB.out⟩
  case round =>
    obtain ⟨i, hi, rfl, hA, hbe⟩ := hrel
    by_cases h64 : i < 64
    · have hiI : (i : Int) < 64 := by omega
      have hi0 : (0 : Int) ≤ (i : Int) := by omega
      have hk64 := HKL.out
      have c1 := (hbe.cell (p := ⟨g, i, none⟩) (block_lt_of_cell (HC.out i h64))).trans (HC.out i h64)
      have c2 := hA.cell (k := i) (by rw [padQ_length, hk64]; exact h64)
      have f2 := hA.free i
      have hset := padQ_set kb p i
      unfold xb at hset
      have HSET := Lib.hid hset
      have HA := Lib.hid hA
      generalize kb.getD i 0 = q at *
      clear hset hA hk64
      go_wp2_with fail
      go_roundw
      case rel => exact ⟨i + 1, by omega, by go_num, by rw [← HSET.out]; exact HA.out.set i _, hbe.setCell (p := ⟨w.heap.size, i, none⟩) (Nat.le_refl _) _⟩
      case measure => simp [intOf]; omega
    · obtain rfl : i = 64 := by omega
      have hfull := padQ_full kb p
      rw [HKL.out] at hfull
      rw [hfull] at hA
      have hl : (padS kb p).length = 64 := by rw [padS_length, HKL.out]
      have hown := own_of_arr (m := 64) hA hl (Nat.le_refl _) (by unfold maxLen; omega)
      rw [List.take_of_length_le (by rw [hl]; exact Nat.le_refl _)] at hown
      have HOW := Lib.hid hown
      have HBE := Lib.hid hbe
      clear hA hbe hfull hl hown
      go_wp2_with fail
      go_ret
      exact ⟨rfl, HOW.out, HBE.out⟩

set_option maxRecDepth 100000 in
set_option maxHeartbeats 3200000 in
theorem rpadded_any (l : List Int) (v : Value) (g1 c1 g2 c2 : Nat) (w : World) (hM : Mad w g1 c1 g2 c2) (hv : BS w v l) (hr : Room v) (hn : l.length ≤ 1000000) :
    Calls Tryd.prog 52 #[.agg #[.slice (some ⟨g1, 0, none⟩) 8 c1, .slice (some ⟨g2, 0, none⟩) 64 c2], v] w fun e w' => (∃ g, e = .returned (.slice (some ⟨g, 0, none⟩) 64 64) ∧ w'.heap[g]? = some (.cells (u8s (keyB l)) 5 (0, 0))) ∧ Below w.heap.size w w' := by
  have HV := Lib.hid (And.intro hv hr)
  have HM := Lib.hid hM
  obtain ⟨a, cap, rfl, _, _, _⟩ := hv
  have HKL := Lib.hid (keyS_length l)
  have nI : (l.length : Int) ≤ 1000000 := by omega
  have HNL := Lib.hid hn
  have sa := slice_all32
  have hmk := make_64
  have SC := Lib.hid (show (Tryd.prog.info? 32).map (·.size) = some (#[Value.slice (some ⟨g1, 0, none⟩) 8 c1, .slice (some ⟨g2, 0, none⟩) 64 c2] : Array Value).size by kernel_rfl)
  clear hr hn hM
  go_enter Tryd.func52, Tryd.ntmps52
  go_upto_if 9 with (fail)
  have h1 := heap_alloc_new w (.cells #[.slice (some ⟨g1, 0, none⟩) 8 c1, .slice (some ⟨g2, 0, none⟩) 64 c2] 32)
  have hb1 := (Below.refl w.heap.size w).alloc (Nat.le_refl _) (.cells #[.slice (some ⟨g1, 0, none⟩) 8 c1, .slice (some ⟨g2, 0, none⟩) 64 c2] 32)
  refine (show ∀ W1 : World, W1 = w.alloc (.cells #[.slice (some ⟨g1, 0, none⟩) 8 c1, .slice (some ⟨g2, 0, none⟩) 64 c2] 32) → _ from ?_) _ rfl
  intro W1 eW
  rw [← eW] at h1 hb1
  have HC1 := Lib.hid h1
  have HB1 := Lib.hid hb1
  have HM1 := Lib.hid (HM.out.kept hb1)
  have HV1 := Lib.hid (HV.out.1.kept hb1)
  clear eW h1 hb1
  go_cut [1] (fun v1 w1 => BS w1 v1 (keyS l) ∧ Room v1 ∧ Below w.heap.size w w1)
  case first =>
    by_cases h64 : 64 < l.length
    · have hI : (64 : Int) < (l.length : Int) := by omega
      have HE := Lib.hid (show keyS l = hashS l from if_pos h64)
      have HW := Lib.hid (rwith_any l _ g1 c1 g2 c2 W1 HM1.out HV1.out HNL.out)
      clear h64
      go_wp2_with (first
        | (with_reducible refine wpList_load_row (o := ⟨some 10, _, _, _, _, _⟩) rfl 32 _ rfl w.heap.size rfl 32 #[.slice (some ⟨g1, 0, none⟩) 8 c1, .slice (some ⟨g2, 0, none⟩) 64 c2] (0, 0) _ HC1.out Tryd.underlying32 rfl SC.out ?_))
      refine HW.out.mono ?_
      rintro e w2 ⟨rfl, hb2⟩
      have SH := Lib.hid (size_h32 (hashS l) (hashS_length l))
      have SE := Lib.hid (show (u8s (List.replicate 32 0)).size = (u8s (hashS l)).size by rw [u8s_size, u8s_size, hashS_length]; rfl)
      have HB2 := Lib.hid (HB1.out.trans (hb2.mono HB1.out.size))
      clear hb2
      go_wp2_with (first
        | (with_reducible refine wpList_store_row (o := ⟨none, .store _ (.tmp 5) _, _, _, _, _⟩) rfl 24 _ _ rfl w2.heap.size (u8s (hashS l)) rfl rfl 24 _ (heap_alloc_new w2 _) SH.out ?c1 (u8s_one _) ?_))
      case c1 => exact SE.out
      generalize hW3 : World.setRow _ w2.heap.size _ = W3
      obtain ⟨r3, z3, b3⟩ := fresh_row w2 (u8s (List.replicate 32 0)) (u8s (hashS l)) 24 W3 hW3.symm
      clear hW3
      have hbs := BS.of_arr (show ArrB W3 w2.heap.size 24 (hashS l) from r3) (hashS_byt l)
      rw [hashS_length] at hbs
      have HBS := Lib.hid hbs
      have B13 := Lib.hid (HB2.out.trans (b3.mono HB2.out.size))
      clear r3 z3 b3 hbs
      go_meet
      refine ⟨by rw [HE.out]; exact HBS.out, room_of _ _ _ (by omega) (by omega), B13.out⟩
    · have hI : (l.length : Int) ≤ 64 := by omega
      have HE := Lib.hid (show keyS l = l from if_neg h64)
      clear h64
      go_wp2_with fail
      go_meet
      exact ⟨by rw [HE.out]; exact HV1.out, HV.out.2, HB1.out⟩
  case rest =>
    obtain ⟨hB, hR, hbel⟩ := hcut
    rename_i v0 w5
    obtain ⟨a0, cap0, hv0, _, _, _⟩ := id hB
    subst hv0
    have HSRC := Lib.hid hB.source
    have HBEL := Lib.hid hbel
    have hlc : (keyS l).length ≤ cap0 := (hR _ _ _ rfl).1
    have hkl := HKL.out
    have hb9 := (Below.refl wc.heap.size wc).alloc (Nat.le_refl _) (.cells (u8s (List.replicate 64 0)) 5)
    have HS9 := Lib.hid ((hB.kept hb9).source)
    have HB9 := Lib.hid hb9
    have HZ9 := Lib.hid (heap_alloc_new wc (.cells (u8s (List.replicate 64 0)) 5))
    have HBW := Lib.hid (hbel.trans (hb9.mono hbel.size))
    clear hB hR hbel hb9
    generalize hk : keyS l = k at *
    have HKE := Lib.hid hk
    clear hk
    go_upto_region 5 with (fail)
    refine (show ∀ W9 : World, W9 = wc.alloc (.cells (u8s (List.replicate 64 0)) 5) → _ from ?_) _ rfl
    intro W9 eW
    rw [← eW] at HS9 HB9 HZ9 HBW
    clear eW
    go_wp2_with (first
      | (with_reducible refine wpList_copy_splice (o := ⟨some 17, _, _, _, _, _⟩) rfl (.tmp 15) (.tmp 16) 22 22 rfl 5 Tryd.underlying22 one_u8 (some ⟨wc.heap.size, 0, none⟩) a0 64 64 k.length cap0 rfl rfl wc.heap.size 0 (u8s (List.replicate 64 0)).toList 5 HZ9.out (u8s k).toList ?c1 ?c2 ?c3 (u8s_one' _) wc.heap.size wc HB9.out (Nat.le_refl _) ?_))
    case c1 => rw [Array.length_toList, u8s_size]; exact (Nat.min_eq_left HKL.out).symm
    case c2 =>
      intro hp
      obtain ⟨ad, h1, h2⟩ := HS9.out (by simpa using hp)
      exact ⟨ad, h1, fun j v hv => h2 j v (by rw [Array.getElem?_toList]; exact hv)⟩
    case c3 => rw [Array.length_toList, Array.length_toList, u8s_size, u8s_size, List.length_replicate]; have := HKL.out; omega
    intro w6 hrow hbel6
    have hrow : w6.heap[wc.heap.size]? = some (.cells (splice (u8s (List.replicate 64 0)).toList 0 (u8s k).toList).toArray 5 (0, 0)) := hrow.out
    rw [splice_front, Array.toArray_toList] at hrow
    have hkb : keyB l = k ++ List.replicate (64 - k.length) 0 := by unfold keyB; rw [HKE.out]
    rw [← hkb] at hrow
    have HROW := Lib.hid hrow
    have HB6 := Lib.hid (HBEL.out.trans (hbel6.mono HBEL.out.size))
    clear hrow hbel6 hkb
    go_wp2_with fail
    go_ret
    exact ⟨⟨_, rfl, HROW.out⟩, HB6.out⟩
end Go.Proofs.YtpmeiadnikenmaaDoor
