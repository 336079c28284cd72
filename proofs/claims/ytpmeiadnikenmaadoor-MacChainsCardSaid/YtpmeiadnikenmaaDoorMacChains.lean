/-
  'MacChains' returns true at every input, and each argument reads behind the call as it read before. Conditions: the package-level variable that the row lists starts as the program's text lays it (the card ties that).
-/
import Derived.Test.YtpmeiadnikenmaaDoorLaid
import Derived.Test.YtpmeiadnikenmaaDoorCards
import Derived.Test.YtpmeiadnikenmaaDoorTie
import Derived.Test.YtpmeiadnikenmaaDoorZeros
import Derived.Deep.DeepCutAuto
import Derived.Lib.AppendStr
import Derived.ChangeMaps5
namespace Go.Proofs.YtpmeiadnikenmaaDoor.macChains
open Go.ChangeShapes Go.WideShapes Go.ChangeAt Go.RowKit
open Go.ChangeMaps (open_string shut_string)
set_option linter.unusedVariables false

theorem strCells_txt (s : ByteArray) : Lib.strCells s = (txt s).map (Value.int .u8) := by
  unfold txt Lib.strCells
  simp
theorem expAll_seg (key lab : List Int) (n k : Nat) (h : k < n) : ((expAll key lab n).drop (32 * k)).take 32 = blkS key lab (k + 1) := by
  induction n with
  | zero => omega
  | succ n ih =>
    rw [expAll]
    by_cases hk : k < n
    · rw [List.drop_append_of_le_length (by rw [expAll_length]; omega), List.take_append_of_le_length (by rw [List.length_drop, expAll_length]; omega)]
      exact ih hk
    · obtain rfl : k = n := by omega
      rw [List.drop_append, expAll_length, Nat.sub_self, List.drop_zero, List.drop_eq_nil_of_le (by rw [expAll_length]; exact Nat.le_refl _), List.nil_append]
      exact List.take_of_length_le (by rw [blkS_length]; exact Nat.le_refl _)
theorem expS_seg (key lab : List Int) (n k : Nat) (h : k < n) : ((expS key lab (32 * n)).drop (32 * k)).take 32 = blkS key lab (k + 1) := by
  have e : expS key lab (32 * n) = expAll key lab n := by
    unfold expS
    rw [show (32 * n + 31) / 32 = n by omega, List.take_of_length_le (by rw [expAll_length]; exact Nat.le_refl _)]
  rw [e]
  exact expAll_seg key lab n k h

set_option maxRecDepth 100000 in
set_option maxHeartbeats 1600000 in
theorem walk (w : World) (a0 : Option Addr) (len0 cap0 : Nat) (l0 : List Int) (e0 : l0.length = len0) (b0 : BS w (.slice a0 len0 cap0) l0) (m0 : len0 ≤ cap0) (n0 : cap0 ≤ 140737488351232) (s1 : ByteArray) (z1 : s1.size ≤ 140737488351232) (a2 : Int) (h20 : 0 ≤ a2) (h21 : a2 ≤ 255) (hK : KT w) :
    Calls Tryd.prog 11 #[.slice a0 len0 cap0, .string s1, .int .u8 a2] w fun e w' => e = .returned (.bool true) ∧ Below w.heap.size w w' := by
  have HK := Lib.hid hK
  have HPOS := Lib.hid hK.pos
  have HB0 := Lib.hid b0
  have HE := Lib.hid e0
  have HM := Lib.hid (And.intro m0 n0)
  have len0I : (len0 : Int) ≤ 140737488351232 := by omega
  have s1I : (s1.size : Int) ≤ 140737488351232 := by omega
  clear hK b0 e0 m0 n0
  by_cases hbig : (500 : Int) < (len0 : Int) + (s1.size : Int)
  · go_enter Tryd.func11, Tryd.ntmps11
    go_wp2_with fail
    refine (alive3_any w HK.out).mono ?_
    rintro e w1 ⟨rfl, hb1⟩
    go_wp2_with fail
    go_ret
    exact ⟨rfl, hb1⟩
  have hle : (len0 : Int) + (s1.size : Int) ≤ 500 := by omega
  have HLE := Lib.hid (show len0 + s1.size ≤ 500 by omega)
  clear hbig z1
  obtain ⟨m, hm, hmm⟩ : ∃ m : Nat, a2 % 6 = (m : Int) ∧ m ≤ 5 := ⟨(a2 % 6).toNat, by omega, by omega⟩
  obtain ⟨n, hn, hnn⟩ : ∃ n : Nat, (m : Int) + 1 = (n : Int) ∧ n = m + 1 := ⟨m + 1, by omega, rfl⟩
  obtain ⟨q, hq, hqq⟩ : ∃ q : Nat, 32 * (n : Int) = (q : Int) ∧ q = 32 * n := ⟨32 * n, by omega, rfl⟩
  have HQ := Lib.hid (And.intro hqq (show n ≤ 6 by omega))
  have q0 : (0 : Int) ≤ (q : Int) := by omega
  have q1 : (q : Int) ≤ 192 := by omega
  have n1 : (n : Int) ≤ 6 := by omega
  have n0 : (1 : Int) ≤ (n : Int) := by omega
  clear hmm hnn hqq
  go_enter Tryd.func11, Tryd.ntmps11
  go_wp2_with fail
  refine (alive3_any w HK.out).mono ?_
  rintro e w1 ⟨rfl, hb1⟩
  have HBE1 := Lib.hid hb1
  have HEXP := Lib.hid (exp_ok l0 (.slice a0 len0 cap0) s1 q w1 (HK.out.below hb1 HPOS.out) (HB0.out.kept hb1) (room_of _ _ _ HM.out.1 (by have := HM.out.2; omega)) (by rw [HE.out]; have := HLE.out; omega) (by have := HLE.out; omega) (by omega))
  clear hb1
  go_wp2_with fail
  refine HEXP.out.mono ?_
  rintro e w2 ⟨⟨v2, rfl, ho2⟩, hb2⟩
  obtain ⟨a2', c2, rfl, hsh2⟩ := own_shape ho2
  have HO2 := Lib.hid ho2
  have HBE2 := Lib.hid (HBE1.out.trans (hb2.mono HBE1.out.size))
  have HRM := Lib.hid (room_of_own ho2)
  have HBA := Lib.hid (BS.of_own ho2 (expS_length _ _ _) (expS_byt _ _ _))
  clear hsh2 ho2 hb2
  go_wp2_with fail
  go_loopw [10, 43] (fun v10 v43 wr => ∃ (k : Nat) (a10 : Option Addr) (c10 : Nat), k ≤ n ∧ v43 = .int .i64 (k : Nat) ∧ v10 = .slice a10 (blkS l0 (txt s1) k).length c10 ∧ BS wr (.slice a10 (blkS l0 (txt s1) k).length c10) (blkS l0 (txt s1) k) ∧ Room (.slice a10 (blkS l0 (txt s1) k).length c10) ∧ Below w2.heap.size w2 wr) (fun _ v _ => n - (intOf v).toNat)
  case atStart => exact ⟨0, none, 0, by omega, rfl, rfl, ⟨none, 0, rfl, blkS_byt _ _ 0, fun _ => rfl, .inl rfl⟩, room_of _ _ _ (by simp [blkS]) (by omega), Below.refl _ _⟩
  case round =>
    obtain ⟨k, a10, c10, hk, rfl, rfl, hb10, hr10, hbe⟩ := hrel
    by_cases hlt : k < n
    · have hkI : (k : Int) < (n : Int) := by omega
      have hk0 : (0 : Int) ≤ (k : Int) := by omega
      obtain ⟨p, hp, hpp⟩ : ∃ p : Nat, 32 * (k : Int) = (p : Int) ∧ p = 32 * k := ⟨32 * k, by omega, rfl⟩
      obtain ⟨p2, hp2, hpp2⟩ : ∃ p2 : Nat, (p : Int) + 32 = (p2 : Int) ∧ p2 = p + 32 := ⟨p + 32, by omega, rfl⟩
      have HPP := Lib.hid (And.intro hpp hpp2)
      have hpq : p2 ≤ q := by have := HQ.out.1; omega
      obtain ⟨a4, hsl, _, _, hbs4, _⟩ := slice_part w2 a2' q c2 p p2 _ HBA.out (expS_length _ _ _) (by omega) hpq (HRM.out _ _ _ rfl).1
      have e32 : p2 - p = 32 := by omega
      rw [e32] at hsl hbs4
      have hseg := expS_seg l0 (txt s1) n k hlt
      rw [← HQ.out.1, ← hpp] at hseg
      rw [hseg] at hbs4
      have HB4 := Lib.hid hbs4
      have HBE := Lib.hid hbe
      have HLT := Lib.hid hlt
      have hE : blkS l0 (txt s1) (k + 1) = macS l0 (blkS l0 (txt s1) k ++ (txt s1 ++ [(k : Int) + 1])) := rfl
      have HEB := Lib.hid hE
      have hlk := blkS_le l0 (txt s1) k
      have hyk := blkS_byt l0 (txt s1) k
      have hln := blkS_length l0 (txt s1) k
      have hyn := blkS_byt l0 (txt s1) (k + 1)
      generalize hN : blkS l0 (txt s1) (k + 1) = N at *
      have HEN := Lib.hid hN
      generalize blkS l0 (txt s1) k = bk at *
      have HNN := Lib.hid (And.intro hln hyn)
      have HKK := Lib.hid (And.intro hlk hyk)
      have HR10 := Lib.hid hr10
      have HNE := Lib.hid (own_empty wr)
      have HB5 := Lib.hid ((Below.refl wr.heap.size wr).alloc (Nat.le_refl _) (.cells #[] 5))
      have HL5 := Lib.hid (hb10.kept HB5.out)
      obtain ⟨i0, hi, hz0, hz1, hz2⟩ := info_parts info_u8
      have HI := Lib.hid (And.intro hi (And.intro hz0 (And.intro hz1 hz2)))
      have HK1 := Lib.hid (show Byt [(k : Int) + 1] by intro z hz; simp at hz; omega)
      have HTL := Lib.hid (txt_length s1)
      clear hN hi hz0 hz1 hz2 hbs4 hseg hbe hE hlk hyk hln hyn hb10 hr10 hpp hpp2 e32 hpq hlt hk
      go_wp2_with (first
        | (at_builtin; (with_reducible refine wpList_append_BS (o := ⟨some 49, _, _, _, _, _⟩) rfl _ _ rfl wr.heap.size (.slice (some ⟨wr.heap.size, 0, none⟩) 0 0) 0 [] rfl HNE.out (.slice a10 bk.length c10) bk rfl HL5.out (by have := HKK.out.1; omega) (by simp) ?_); intro v5 w5 ho5 hg5; (rw [Nat.zero_add, List.nil_append] at ho5); obtain ⟨a5, c5, rfl, _⟩ := own_shape ho5; have HO5 := Lib.hid ho5; have HB6 := Lib.hid (HB5.out.grown hg5 (by simp) (fun k hk => by have h : wr.heap.size = k := Option.some.inj hk; omega)); clear ho5 hg5)
        | (at_builtin; (with_reducible refine Lib.wpList_append_own_string (o := ⟨some 51, _, _, _, _, _⟩) w5 rfl _ _ 22 9 rfl wr.heap.size 5 i0 Tryd.underlying22 Tryd.underlying9 HI.out.1 HI.out.2.1 HI.out.2.2.1 HI.out.2.2.2 (.slice a5 bk.length c5) bk.length (bk.map (.int .u8)) rfl HO5.out s1 rfl (by unfold maxLen; have := HKK.out.1; have := HLE.out; omega) (by have := HKK.out.1; have := HLE.out; omega) HB6.out.size ?_); intro v6 w6 ho6 hg6 _; (rw [strCells_txt, ← List.map_append] at ho6); obtain ⟨a6, c6, rfl, _⟩ := own_shape ho6; have HO6 := Lib.hid ho6; have HB7 := Lib.hid (HB6.out.grown hg6 HB6.out.size (fun k hk => (HO5.out.lt k hk).1)); have HB8 := Lib.hid ((Below.refl w6.heap.size w6).alloc (Nat.le_refl _) (.cells #[Value.int .u8 ((k : Int) + 1)] 5)); have HO7 := Lib.hid (own_below ho6 HB8.out); have HL8 := Lib.hid (show BS (w6.alloc (.cells #[Value.int .u8 ((k : Int) + 1)] 5)) (.slice (some ⟨w6.heap.size, 0, none⟩) 1 1) [(k : Int) + 1] from bs_const (heap_alloc_new w6 (.cells (u8s [(k : Int) + 1]) 5)) HK1.out 1 rfl); clear ho6 hg6)
        | (at_builtin; (with_reducible refine wpList_append_BS (o := ⟨some 56, _, _, _, _, _⟩) rfl _ _ rfl wr.heap.size (.slice a6 (bk.length + s1.size) c6) (bk.length + s1.size) ((bk ++ txt s1).map (.int .u8)) rfl HO7.out (.slice (some ⟨w6.heap.size, 0, none⟩) 1 1) [(k : Int) + 1] rfl HL8.out (by have := HKK.out.1; have := HLE.out; simp; omega) (Nat.le_trans HB7.out.size HB8.out.size) ?_); intro v7 w7 ho7 hg7; (rw [← List.map_append, List.append_assoc] at ho7); obtain ⟨a7, c7, rfl, _⟩ := own_shape ho7; have HO8 := Lib.hid ho7; have HB9 := Lib.hid ((HB7.out.trans (HB8.out.mono HB7.out.size)).grown hg7 (Nat.le_trans HB7.out.size HB8.out.size) (fun k hk => (HO7.out.lt k hk).1)); clear ho7 hg7))
      have hlen : (bk ++ (txt s1 ++ [(k : Int) + 1])).length = bk.length + s1.size + [(k : Int) + 1].length := by simp [HTL.out]; omega
      have hbs7 := BS.of_own HO8.out hlen (byt_app HKK.out.2 (byt_app (txt_byt s1) HK1.out))
      have HBE7 := Lib.hid (HBE2.out.trans ((HBE.out.trans (HB9.out.mono HBE.out.size)).mono HBE2.out.size))
      have hmac := mac_any l0 (bk ++ (txt s1 ++ [(k : Int) + 1])) (.slice a0 len0 cap0) _ w7 (HK.out.below HBE7.out HPOS.out) (HB0.out.kept HBE7.out) (room_of _ _ _ HM.out.1 (by have := HM.out.2; omega)) hbs7 (room_of_own HO8.out) (by rw [HE.out]; have := HLE.out; omega) (by rw [hlen]; have := HKK.out.1; have := HLE.out; simp; omega)
      rw [← HEB.out] at hmac
      have HMAC := Lib.hid hmac
      have HB29 := Lib.hid (HBE.out.trans (HB9.out.mono HBE.out.size))
      clear hlen hbs7 hmac HO5 HO6 HO7 HO8 HB5 HB6 HB7 HB8 HL5 HL8 HNE HB9
      refine HMAC.out.mono ?_
      rintro e w8 ⟨rfl, hb8⟩
      have SH := Lib.hid (size_h32 N HNN.out.1)
      have SE := Lib.hid (show (u8s (List.replicate 32 0)).size = (u8s N).size by rw [u8s_size, u8s_size, HNN.out.1]; rfl)
      have HB28 := Lib.hid (HB29.out.trans (hb8.mono HB29.out.size))
      clear hb8 HMAC
      go_upto_region 14 with (first
        | (with_reducible refine wpList_store_row (o := ⟨none, .store _ (.tmp 12) _, _, _, _, _⟩) rfl 24 _ _ rfl w8.heap.size (u8s N) rfl rfl 24 _ (heap_alloc_new w8 _) SH.out ?c1 (u8s_one _) ?_))
      case c1 => exact SE.out
      generalize hW9 : World.setRow _ w8.heap.size _ = W9
      obtain ⟨r9, z9, b9⟩ := fresh_row w8 (u8s (List.replicate 32 0)) (u8s N) 24 W9 hW9.symm
      clear hW9
      have hA9 : ArrB W9 w8.heap.size 24 N := r9
      have hbN := BS.of_arr hA9 HNN.out.2
      rw [HNN.out.1] at hbN
      have HB9 := Lib.hid (HB28.out.trans (b9.mono HB28.out.size))
      have HBN := Lib.hid hbN
      clear r9 z9 b9 hA9 hbN
      generalize w8.heap.size = bh at *
      have HSAME := Lib.hid (fun (W : World) (hb : Below W9.heap.size W9 W) => same_eq W (.slice (some ⟨bh, 0, none⟩) 32 32) (.slice a4 32 (c2 - p)) N (HBN.out.kept hb) ((HB4.out.kept HB9.out).kept hb))
      have sa := slice_all32
      have hw1 : IntKind.i64.wrap (32 * (k : Int)) = (p : Int) := by rw [hp]; exact IntWalk.i64_in _ (by have := HQ.out.2; have := HPP.out.1; omega)
      have hw3 : IntKind.i64.wrap (p : Int) = (p : Int) := IntWalk.i64_in _ (by have := HQ.out.2; have := HPP.out.1; omega)
      have hw2 : IntKind.i64.wrap ((p : Int) + 32) = (p2 : Int) := by rw [hp2]; exact IntWalk.i64_in _ (by have := HQ.out.2; have := HPP.out.1; have := HPP.out.2; omega)
      have hw4 : IntKind.i64.wrap (p2 : Int) = (p2 : Int) := IntWalk.i64_in _ (by have := HQ.out.2; have := HPP.out.1; have := HPP.out.2; omega)
      have hp0 : (0 : Int) ≤ (p : Int) := by omega
      go_wp2_with fail
      refine wp_region_noPanic ?_
      refine wp_region_held_drew (S := fun _ => True) (by kernel_rfl) trivial (fun hHeld => ?_)
      refine wpAnyH_take (i := 0) (oi := ⟨some 58, _, _, _, _, _⟩) (v := ?_) rfl (by kernel_rfl) (by decide +kernel) (by decide +kernel) (fun _ _ _ h => h) (Or.inl ⟨by rfl, ?_⟩) (by assumption) ?_
      rotate_left 1
      · (intro w' hSw; go_simp; try with_reducible rfl)
      try simp only [Act.put, List.setIfInBounds_toArray, List.set_cons_zero, List.set_cons_succ]
      refine wpAnyH_take (i := 1) (oi := ⟨some 59, _, _, _, _, _⟩) (v := ?_) rfl (by kernel_rfl) (by decide +kernel) (by decide +kernel) (fun _ _ _ h => h) (Or.inl ⟨by rfl, ?_⟩) (by assumption) ?_
      rotate_left 1
      · (intro w' hSw; go_simp; try with_reducible rfl)
      try simp only [Act.put, List.setIfInBounds_toArray, List.set_cons_zero, List.set_cons_succ]
      refine wpAnyH_take (i := 2) (oi := ⟨some 60, _, _, _, _, _⟩) (v := ?_) rfl (by kernel_rfl) (by decide +kernel) (by decide +kernel) (fun _ _ _ h => h) (Or.inl ⟨by rfl, ?_⟩) (by assumption) ?_
      rotate_left 1
      · (intro w' hSw; go_simp; try with_reducible rfl)
      try simp only [Act.put, List.setIfInBounds_toArray, List.set_cons_zero, List.set_cons_succ]
      refine wpAnyH_take (i := 3) (oi := ⟨some 61, _, _, _, _, _⟩) (v := ?_) rfl (by kernel_rfl) (by decide +kernel) (by decide +kernel) (fun _ _ _ h => h) (Or.inl ⟨by rfl, ?_⟩) (by assumption) ?_
      rotate_left 1
      · (intro w' hSw; go_simp; try with_reducible rfl)
      try simp only [Act.put, List.setIfInBounds_toArray, List.set_cons_zero, List.set_cons_succ]
      refine wpAnyH_take (i := 4) (oi := ⟨some 62, _, _, _, _, _⟩) (v := ?_) rfl (by kernel_rfl) (by decide +kernel) (by decide +kernel) (fun _ _ _ h => h) (Or.inl ⟨by rfl, ?_⟩) (by assumption) ?_
      rotate_left 1
      · (intro w' hSw; go_simp; try with_reducible rfl)
      try simp only [Act.put, List.setIfInBounds_toArray, List.set_cons_zero, List.set_cons_succ]
      refine wpAnyH_take (i := 5) (oi := ⟨some 63, _, _, _, _, _⟩) (v := ?_) rfl (by kernel_rfl) (by decide +kernel) (by decide +kernel) (fun _ _ _ h => h) (Or.inl ⟨by rfl, ?_⟩) (by assumption) ?_
      rotate_left 1
      · (intro w' hSw; go_simp; try with_reducible rfl)
      try simp only [Act.put, List.setIfInBounds_toArray, List.set_cons_zero, List.set_cons_succ]
      refine wpAnyH_take (i := 6) (oi := ⟨some 64, _, _, _, _, _⟩) (v := ?_) rfl (by kernel_rfl) (by decide +kernel) (by decide +kernel) (fun _ _ _ h => h) (Or.inl ⟨by rfl, ?_⟩) (by assumption) ?_
      rotate_left 1
      · (intro w' hSw; go_simp; try with_reducible rfl)
      try simp only [Act.put, List.setIfInBounds_toArray, List.set_cons_zero, List.set_cons_succ]
      refine wpAnyH_take (i := 7) (oi := ⟨some 65, _, _, _, _, _⟩) (v := ?_) rfl (by kernel_rfl) (by decide +kernel) (by decide +kernel) (fun _ _ _ h => h) (Or.inl ⟨by rfl, ?_⟩) (by assumption) ?_
      rotate_left 1
      · (intro w' hSw; go_simp; try with_reducible rfl)
      try simp only [Act.put, List.setIfInBounds_toArray, List.set_cons_zero, List.set_cons_succ]
      refine wpAnyH_ready (rs := [8]) (by decide +kernel) (by simp) ?_
      refine AllReadyH.cons rfl (fun K hK => ?_) AllReadyH.nil
      go_simp
      go_at_call 31
      refine (HSAME.out W9.drew (Below.refl _ W9).drew).mono ?_
      rintro e w10 ⟨rfl, rfl⟩
      go_wp2_with fail
      refine hK.out _ _ (trivial) (fun hHeld => ?_)
      clear hK K
      try simp only [Act.put, List.setIfInBounds_toArray, List.set_cons_zero, List.set_cons_succ]
      refine wpAnyH_take (i := 9) (oi := ⟨some 67, _, _, _, _, _⟩) (v := ?_) rfl (by kernel_rfl) (by decide +kernel) (by decide +kernel) (fun _ _ _ h => h) (Or.inl ⟨by rfl, ?_⟩) (by assumption) ?_
      rotate_left 1
      · (intro w' hSw; go_simp; try with_reducible rfl)
      try simp only [Act.put, List.setIfInBounds_toArray, List.set_cons_zero, List.set_cons_succ]
      refine wpAnyH_done (by decide +kernel) ?_ _
      refine NoPanic.normal ?_
      clear hsl hw1 hw2 hw3 hw4
      go_wp2_with fail
      go_roundw
      case rel =>
        refine ⟨k + 1, some ⟨bh, 0, none⟩, 32, by have := HLT.out; omega, by go_num, ?_, ?_, ?_, ?_⟩
        · rw [blkS_length]
        · rw [HEN.out, HNN.out.1]; exact HBN.out
        · rw [HEN.out, HNN.out.1]; exact room_of _ _ _ (by omega) (by omega)
        · exact HB9.out.drew
      case measure => simp [intOf]; omega
    · have hge : (n : Int) ≤ (k : Int) := by omega
      have HBE := Lib.hid (HBE2.out.trans (hbe.mono HBE2.out.size))
      clear hb10 hr10 hbe hlt hk
      go_wp2_with fail
      go_ret
      exact ⟨rfl, HBE.out⟩
set_option maxRecDepth 100000 in
theorem lifted (os : Os) (started : os.Started) (H : Type) (enc : TypeId × Value → H) :
    ReturnsInHanded {} Tryd.checked os 11 .any (fun w args => (Rows.macChainsSpec.pre enc Tryd.prog Tryd.f11 [] false w args ∧ laidMetH Tryd.prog [("banyan/sha.roundNumbers", Rows.laid_banyan_sha_roundNumbers)] w) ∧ sizedMet enc Tryd.prog Tryd.f11 (OpenSpec.ofChange Rows.macChainsSpec) false w args)
      (Rows.macChainsSpec.post enc Tryd.prog Tryd.f11 false true false false) := by
  refine returnsInHanded_of_change_and (C := Tryd.checked) (X := fun w _ => laidMetH Tryd.prog [("banyan/sha.roundNumbers", Rows.laid_banyan_sha_roundNumbers)] w) (fun _ _ _ hh h => h.of_heap hh) own started (by kernel_rfl) Tryd.func11
    (ChangeSpec.witness_shaped (enc := enc) (C := Tryd.checked) (os := os) (X := fun w _ => laidMetH Tryd.prog [("banyan/sha.roundNumbers", Rows.laid_banyan_sha_roundNumbers)] w) false (World.doorLaid Tryd.prog 400 os) #[.slice none 0 0, .string ⟨#[]⟩, .int .u8 0] 8 rfl (World.shaped_of_RefB (by kernel_rfl) (by kernel_rfl)) (by kernel_rfl) (by kernel_rfl) (by kernel_rfl) (door_met os _)) ?_
  intro W base args ds gs before hval0 hW _ hsz0 hL _
  have hval : ∀ (j : Nat) t v, Tryd.f11.params[j]? = some t → args[j]? = some v → Value.okWide Tryd.prog W .any base t v := hval0
  have hsz : (DataW.weightsEach Tryd.prog (Tryd.f11.params.toList ++ Rows.macChainsSpec.plain.varTypes Tryd.prog) (ds ++ gs)).all (· ≤ reachBytes) = true := hsz0
  clear hsz0
  have hW' := hW
  obtain ⟨p, q, hA0, hV, rfl, hfz, hnd⟩ := hW
  have hA : DataW.TrodAll enc Tryd.prog W 0 (fun _ => true) true Tryd.f11.params.toList args.toList ds p := hA0
  rw [Tryd.params11] at hA hval hsz
  obtain ⟨v0, vs0, d0, ds0, p0, q0, hargs, rfl, rfl, h0, r0⟩ := trodAll_cons hA
  obtain ⟨v1, vs1, d1, ds1, p1, q1, rfl, rfl, rfl, h1, r1⟩ := trodAll_cons r0
  obtain ⟨v2, vs2, d2, ds2, p2, q2, rfl, rfl, rfl, h2, r2⟩ := trodAll_cons r1
  obtain ⟨rfl, rfl, rfl⟩ := trodAll_nil r2
  obtain rfl : args = #[v0, v1, v2] := by cases args; simp_all
  obtain ⟨rfl, rfl⟩ := trodVars_none hV
  have k0 := h0
  have lt0 : ∀ x ∈ p0, x.block < W.heap.size := by obtain ⟨m, hm⟩ := k0; exact DataW.trod_lt m _ _ _ hm
  obtain ⟨a0, len0, cap0, l0, rfl, e0, b0, m0, n0⟩ := open_bs (hval 0 22 v0 rfl rfl) h0 (fun elems spare hd => sized_slice hsz (j := 0) (t := 22) (e := 5) rfl (by rw [hd]; rfl) Tryd.underlying22)
  obtain ⟨s1, rfl, rfl, rfl, _⟩ := open_string Tryd.underlying9 (hval 1 9 v1 rfl rfl) h1
  have z1 : s1.size ≤ 140737488351232 := by
    have := sized_string hsz (j := 1) (t := 9) rfl rfl
    exact this
  obtain ⟨a2, rfl, rfl, rfl, w2⟩ := open_int Tryd.underlying5 (hval 2 5 v2 rfl rfl) h2
  obtain ⟨h20, h21⟩ : 0 ≤ a2 ∧ a2 ≤ 255 := by
    have := w2
    simp [Lit.wf, IntKind.min, IntKind.max, IntKind.signed, IntKind.bits] at this
    omega
  have hK := of_laid hL
  clear hA0 hval0
  refine (walk W a0 len0 cap0 l0 e0 b0 m0 n0 s1 z1 a2 h20 h21 hK).mono fun e W' ⟨he, bel⟩ => ?_
  subst he
  exact ⟨_, rfl, _, _, _, [], _, [], hW', trodAll_mk1 (shut_bool Tryd.underlying4 _), (trodAll_cons_mk (Below.trod laidOut (by kernel_rfl) (of_decide_eq_true (by kernel_rfl)) k0 bel lt0) (trodAll_cons_mk (shut_string Tryd.underlying9 (by unfold maxLen; omega)) (trodAll_cons_mk (shut_int Tryd.underlying5 w2) trodAll_mk0))), rfl, bel.frame _, fun h => by cases h⟩

theorem over : Rows.MacChainsSaid :=
  OpenClaim.holds_of_wide 11 Tryd.f11 rfl rfl rfl rfl rfl rfl rfl ⟨rfl, rfl, rfl, rfl, rfl⟩ rfl rfl rfl rfl rfl (by kernel_rfl) Tryd.func11 (by kernel_rfl)
    (of_decide_eq_true (by kernel_rfl)) (by unfold Func.isWrapper; first | (rw [if_pos (by decide +kernel)]; kernel_rfl) | (rw [if_neg (by decide +kernel)]; exact ⟨rfl, rfl⟩))
    (fun os started H enc _ => lifted os started H enc)

/-- The statement. -/
theorem proved : Rows.MacChainsCardSaid :=
  Claim7.holds_tied_plain_at .later [] [.data] true (true, "e0374d2ffff8b996aa7eb96177f9d43dd083ddb5548ca805c513efc6b04d9a8e") false
    over (fun _ h => by cases h) (by kernel_rfl) (fun _ h => by cases h) macChains_row_tie rfl ⟨rfl, rfl⟩ (by kernel_rfl) rfl
    (fun f fn hf hfn => by
      obtain rfl : f = 11 := Option.some.inj ((show Tryd.prog.funcNamed "banyan/banyanlaw03.MacChains" = some 11 by kernel_rfl).symm.trans hf) |>.symm
      obtain rfl : fn = Tryd.f11 := (Option.some.inj (Tryd.func11.symm.trans hfn)).symm
      exact ⟨by kernel_rfl, fun j t ht => by
        rw [Tryd.params11] at ht
        have hm : t ∈ [22, 9, 5] := by simpa using Array.mem_of_getElem? ht
        have hall : ([22, 9, 5].all fun u => !Tryd.prog.wantsStandIn u) = true := by kernel_rfl
        exact (show Tryd.prog.wantsStandIn t = false by simpa using List.all_eq_true.1 hall t hm)⟩)
    (by kernel_rfl)
#print axioms proved
end Go.Proofs.YtpmeiadnikenmaaDoor.macChains
