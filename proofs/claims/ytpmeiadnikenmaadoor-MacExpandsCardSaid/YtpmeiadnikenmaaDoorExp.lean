/-
  Codes under a key: many bytes of one.
-/
import Derived.Test.YtpmeiadnikenmaaDoorAlive3
import Derived.Test.YtpmeiadnikenmaaDoorPrimes
namespace Go.Proofs.YtpmeiadnikenmaaDoor
open Go.RowKit

/-- The code behind i codes. -/
def blkS (key lab : List Int) : Nat → List Int
  | 0 => []
  | i + 1 => macS key (blkS key lab i ++ (lab ++ [(i : Int) + 1]))
theorem blkS_length (key lab : List Int) (i : Nat) : (blkS key lab (i + 1)).length = 32 := macS_length _ _
theorem blkS_byt (key lab : List Int) (i : Nat) : Byt (blkS key lab i) := by
  cases i with
  | zero => intro z hz; simp [blkS] at hz
  | succ i => exact macS_byt _ _
theorem blkS_le (key lab : List Int) (i : Nat) : (blkS key lab i).length ≤ 32 := by
  cases i with
  | zero => simp [blkS]
  | succ i => rw [blkS_length]; omega
/-- The first k codes, one behind the other. -/
def expAll (key lab : List Int) : Nat → List Int
  | 0 => []
  | k + 1 => expAll key lab k ++ blkS key lab (k + 1)
theorem expAll_length (key lab : List Int) (k : Nat) : (expAll key lab k).length = 32 * k := by
  induction k with
  | zero => rfl
  | succ k ih => rw [expAll, List.length_append, ih, blkS_length]; omega
theorem expAll_byt (key lab : List Int) (k : Nat) : Byt (expAll key lab k) := by
  induction k with
  | zero => intro z hz; simp [expAll] at hz
  | succ k ih => exact byt_app ih (blkS_byt _ _ _)
theorem expAll_next (key lab : List Int) (k n c : Nat) (hc : c = min 32 (n - 32 * k)) : (expAll key lab (k + 1)).take n = (expAll key lab k).take n ++ (blkS key lab (k + 1)).take c := by
  rw [expAll, List.take_append, expAll_length, hc]
  congr 1
  by_cases h2 : 32 ≤ n - 32 * k
  · rw [Nat.min_eq_left h2, List.take_of_length_le (by rw [blkS_length]; omega), List.take_of_length_le (by rw [blkS_length]; omega)]
  · rw [Nat.min_eq_right (by omega)]
/-- The first n bytes. -/
def expS (key lab : List Int) (n : Nat) : List Int := (expAll key lab ((n + 31) / 32)).take n
theorem expS_length (key lab : List Int) (n : Nat) : (expS key lab n).length = n := by rw [expS, List.length_take, expAll_length]; omega
theorem expS_byt (key lab : List Int) (n : Nat) : Byt (expS key lab n) := fun z hz => expAll_byt key lab _ z (List.mem_of_mem_take hz)

theorem Coder.grown {w w' : World} {v : Value} {key : List Int} {B D F : Nat} (h : Coder w v key B D F) (hb : Below w.heap.size w w') : Coder w' v key B D F := h.kept hb

def vs3 (v10 v9 v37 : Value) : Nat → Value
  | 0 => v10
  | 1 => v9
  | _ => v37
theorem parts3 {w : World} {P : Nat} {v10 v9 v37 : Value} {a b c : List Int} {r : Nat × Nat} {t : TypeId} (h : w.heap[P]? = some (.cells #[v10, v9, v37] t r)) (ha : BS w v10 a) (hb : BS w v9 b) (hc : BS w v37 c) (ra : Room v10) (rb : Room v9) (rc : Room v37) :
    Parts w P (vs3 v10 v9 v37) [a, b, c] := by
  refine ⟨fun i hi => ?_, fun i hi => ?_, fun i hi => ?_⟩
  · have : i = 0 ∨ i = 1 ∨ i = 2 := by simp at hi; omega
    rcases this with rfl | rfl | rfl <;> exact cell_of_row _ _ _ _ _ _ h
  · have : i = 0 ∨ i = 1 ∨ i = 2 := by simp at hi; omega
    rcases this with rfl | rfl | rfl
    · exact ha
    · exact hb
    · exact hc
  · have : i = 0 ∨ i = 1 ∨ i = 2 := by simp at hi; omega
    rcases this with rfl | rfl | rfl
    · exact ra
    · exact rb
    · exact rc

set_option maxHeartbeats 800000 in
theorem exp_bad (v : Value) (s : ByteArray) (n : Int) (w : World) (h : n < 0 ∨ 8160 < n) :
    Calls Tryd.prog 29 #[v, .string s, .int .i64 n] w fun e w' => e = .returned (.tuple #[.slice none 0 0, .int .i64 2]) ∧ w' = w := by
  go_enter Tryd.func29, Tryd.ntmps29
  rcases h with h | h
  · go_wp2_with fail
    go_ret2
    exact ⟨rfl, rfl⟩
  · by_cases h0 : n < 0
    · omega
    · have h1 : 0 ≤ n := by omega
      clear h0
      go_wp2_with fail
      go_ret2
      exact ⟨rfl, rfl⟩

theorem own_below {w w' : World} {base n : Nat} {e : TypeId} {v : Value} {xs : List Value} (h : w.ownsRow base e 1 v n xs) (hb : Below w.heap.size w w') : w'.ownsRow base e 1 v n xs := by
  refine ⟨h.1, ?_⟩
  rcases h.2 with hn | ⟨g, cap, cur, rfl, hbg, hg, rest⟩
  · exact .inl hn
  · exact .inr ⟨g, cap, cur, rfl, hbg, (hb.block g (lt_of_block hg)).trans hg, rest⟩
/-- What is kept while codes are put one behind the other. -/
def ExpR (key lab : List Int) (n : Nat) (W6 : World) (v10 v11 v12 : Value) (wr : World) : Prop :=
  ∃ (k m : Nat) (a : Option Addr) (cap : Nat) (a10 : Option Addr) (c10 : Nat), m = min n (32 * k) ∧ 32 * k ≤ n + 31 ∧ v12 = .int .i64 ((k : Int) + 1) ∧ v11 = .slice a m cap ∧
    wr.ownsRow W6.heap.size 5 1 (.slice a m cap) m (((expAll key lab k).take n).map (.int .u8)) ∧ v10 = .slice a10 (blkS key lab k).length c10 ∧ BS wr (.slice a10 (blkS key lab k).length c10) (blkS key lab k) ∧ Room (.slice a10 (blkS key lab k).length c10) ∧ Below W6.heap.size W6 wr

set_option maxRecDepth 100000 in
set_option maxHeartbeats 3200000 in
theorem exp_ok (key : List Int) (v : Value) (s : ByteArray) (n : Nat) (w : World) (hK : KT w) (hv : BS w v key) (hr : Room v) (hn : key.length ≤ 8000000) (hs : s.size ≤ 8000000) (h : n ≤ 8160) :
    Calls Tryd.prog 29 #[v, .string s, .int .i64 (n : Int)] w fun e w' => (∃ v', e = .returned (.tuple #[v', .int .i64 0]) ∧ w'.ownsRow w.heap.size 5 1 v' n ((expS key (txt s) n).map (.int .u8))) ∧ Below w.heap.size w w' := by
  have HC := Lib.hid (coder_any key v w hK hv hr (by omega))
  have HK := Lib.hid hK
  have hcv := conv_txt s
  have HS := Lib.hid hs
  have HN := Lib.hid h
  have n0 : (0 : Int) ≤ (n : Int) := by omega
  have n1 : (n : Int) ≤ 8160 := by omega
  obtain ⟨i0, hi, hz0, hz1, hz2⟩ := info_parts info_u8
  have HI := Lib.hid (And.intro hi (And.intro hz0 (And.intro hz1 hz2)))
  clear hK hv hr hn hs h hi hz0 hz1 hz2
  go_enter Tryd.func29, Tryd.ntmps29
  go_wp2_with fail
  refine HC.out.mono ?_
  rintro e w1 ⟨⟨f, B, D, F, rfl, hC⟩, hb1⟩
  obtain rfl := hC.val
  have HC1 := Lib.hid hC
  have HB1 := Lib.hid hb1
  have hy := bytes_below w1 s
  have HY := Lib.hid (bytes_bs w1 s)
  have HYR := Lib.hid (bytes_room w1 (some ⟨w1.heap.size, 0, none⟩) s.size (by have := HS.out; omega))
  have HBY := Lib.hid hy
  clear hC hb1 hy
  go_upto_region 6 with (fail)
  generalize hW2 : Lib.bytesWorld w1 5 s = W2 at *
  generalize grownCap w1 s.size 0 5 = cn at *
  have HC2 := Lib.hid (HC1.out.kept HBY.out)
  have HB2 := Lib.hid (HB1.out.trans (HBY.out.mono HB1.out.size))
  clear hW2 HC1 HBY HB1
  generalize w1.heap.size = bn at *
  go_wp2_with (first
    | (with_reducible refine wpList_make_own W2 (o := ⟨some 25, _, _, _, _, _⟩) rfl _ _ 22 rfl W2.heap.size 5 i0 (.int .u8 0) 1 Tryd.underlying22 HI.out.1 HI.out.2.1 HI.out.2.2.1 .i64 .i64 (n : Int) n rfl rfl rfl ?c1 ?c2 (Nat.le_refl _) ?_))
  case c1 => rw [HI.out.2.2.2]; have := HN.out; omega
  case c2 => have := HN.out; unfold maxLen; omega
  intro w3 ho3 hg3
  have HO3 := Lib.hid ho3
  have HB3 := Lib.hid ((Below.refl W2.heap.size W2).grown hg3 (Nat.le_refl _) (fun k hk => by cases hk))
  clear ho3 hg3
  go_wp2_with fail
  go_loopw [10, 11, 12] (fun v10 v11 v12 wr => ExpR key (txt s) n W2 v10 v11 v12 wr) (fun _ _ v12 _ => 300 - (intOf v12).toNat)
  case atStart => exact ⟨0, 0, _, _, none, 0, by omega, by omega, rfl, rfl, by simpa [expAll] using HO3.out, rfl, ⟨none, 0, rfl, blkS_byt _ _ 0, fun _ => rfl, .inl rfl⟩, room_of _ _ _ (by simp [blkS]) (by omega), HB3.out⟩
  case round =>
    obtain ⟨k, m, a, cap, a10, c10, hm, hk, rfl, rfl, ho, rfl, hb10, hr10, hbe⟩ := hrel
    have HO := Lib.hid ho
    have H10 := Lib.hid (And.intro hb10 hr10)
    have HBE := Lib.hid hbe
    have HM := Lib.hid hm
    clear ho hb10 hr10 hbe
    by_cases hlt : 32 * k < n
    · have hmk : m = 32 * k := by omega
      have HMK := Lib.hid hmk
      obtain ⟨c, hc, hcd⟩ : ∃ c : Nat, (n : Int) - (m : Int) = (c : Int) ∧ c = n - 32 * k := ⟨n - 32 * k, by omega, rfl⟩
      obtain ⟨d, hd, hdd⟩ : ∃ d : Nat, (if (c : Int) < 32 then (c : Int) else 32) = (d : Int) ∧ d = min 32 (n - 32 * k) := by
        by_cases h : c < 32
        · exact ⟨c, if_pos (by omega), by omega⟩
        · exact ⟨32, if_neg (by omega), by omega⟩
      have HCD := Lib.hid (And.intro hcd hdd)
      have hmI : (m : Int) < (n : Int) := by omega
      have m0 : (0 : Int) ≤ (m : Int) := by omega
      have d1 : (d : Int) ≤ 32 := by omega
      have d0 : (0 : Int) ≤ (d : Int) := by omega
      have k0 : (0 : Int) ≤ (k : Int) := by omega
      have k1 : (k : Int) < 255 := by omega
      have HLT := Lib.hid hlt
      have HKK := Lib.hid hk
      clear hm hlt hk hmk hcd hdd
      generalize hb : blkS key (txt s) k = bk at *
      have HBK := Lib.hid hb
      clear hb
      go_wp2_with fail
      have hbd : Below wr.heap.size wr ((wr.alloc (.cells (u8s [(k : Int) + 1]) 5)).alloc (.cells #[.slice a10 bk.length c10, .slice (some ⟨bn, 0, none⟩) s.size cn, .slice (some ⟨wr.heap.size, 0, none⟩) 1 1] 22)) := ((Below.refl _ _).alloc (Nat.le_refl _) _).alloc (by simp) _
      have h1 := heap_alloc2_old wr (.cells (u8s [(k : Int) + 1]) 5) (.cells #[.slice a10 bk.length c10, .slice (some ⟨bn, 0, none⟩) s.size cn, .slice (some ⟨wr.heap.size, 0, none⟩) 1 1] 22)
      have h2 := heap_alloc2_new wr (.cells (u8s [(k : Int) + 1]) 5) (.cells #[.slice a10 bk.length c10, .slice (some ⟨bn, 0, none⟩) s.size cn, .slice (some ⟨wr.heap.size, 0, none⟩) 1 1] 22)
      have hbyt : Byt [(k : Int) + 1] := by intro z hz; simp at hz; omega
      have hP := parts3 h2 (H10.out.1.kept hbd) ((HY.out.kept HBE.out).kept hbd) (bs_const h1 hbyt 1 rfl) H10.out.2 HYR.out (room_of _ _ _ (by omega) (by omega))
      have hbe := HBE.out.trans (hbd.mono HBE.out.size)
      have hm2 := coder2_any key _ (wr.heap.size + 1) 3 _ _ B D F _ (HK.out.below (HB2.out.trans (hbe.mono HB2.out.size)) HK.out.pos) (HC2.out.kept hbe) hP
        (by have h3 := blkS_le key (txt s) k; rw [HBK.out] at h3; have h4 := txt_length s; have := HS.out; simp; omega) (by simp)
      rw [show [bk, txt s, [(k : Int) + 1]].flatten = bk ++ (txt s ++ [(k : Int) + 1]) by simp] at hm2
      have HMAC := Lib.hid hm2
      have HBD := Lib.hid hbd
      have HE := Lib.hid (show blkS key (txt s) (k + 1) = macS key (bk ++ (txt s ++ [(k : Int) + 1])) by rw [← HBK.out]; rfl)
      have HX := Lib.hid (expAll_next key (txt s) k n _ rfl)
      clear hbd h1 h2 hbyt hP hbe hm2
      refine HMAC.out.mono ?_
      rintro e w4 ⟨rfl, hb4⟩
      rw [← HE.out]
      have HB4 := Lib.hid (HBD.out.trans (hb4.mono HBD.out.size))
      have hLn := blkS_length key (txt s) k
      have hLy := blkS_byt key (txt s) (k + 1)
      generalize hLe : blkS key (txt s) (k + 1) = L at *
      have HLE := Lib.hid hLe
      clear hLe
      have SH := Lib.hid (size_h32 L hLn)
      have SE := Lib.hid (show (u8s (List.replicate 32 0)).size = (u8s L).size by rw [u8s_size, u8s_size, hLn]; rfl)
      have HL := Lib.hid (And.intro hLn hLy)
      clear hb4 hLn hLy
      go_upto_region 11 with (first
        | (with_reducible refine wpList_store_row (o := ⟨none, .store _ (.tmp 13) _, _, _, _, _⟩) rfl 24 _ _ rfl w4.heap.size (u8s L) rfl rfl 24 _ (heap_alloc_new w4 _) SH.out ?c3 (u8s_one _) ?_))
      case c3 => exact SE.out
      generalize hW5 : World.setRow _ w4.heap.size _ = W5
      obtain ⟨r5, z5, b5⟩ := fresh_row w4 (u8s (List.replicate 32 0)) (u8s L) 24 W5 hW5.symm
      clear hW5
      have hA5 : ArrB W5 w4.heap.size 24 L := r5
      have hbs5 := BS.of_arr hA5 HL.out.2
      rw [HL.out.1] at hbs5
      have hb45 := HB4.out.trans (b5.mono HB4.out.size)
      have HA5 := Lib.hid hA5
      have HB5 := Lib.hid hb45
      have HO5 := Lib.hid (own_below HO.out hb45)
      have HBS5 := Lib.hid hbs5
      obtain ⟨a2, _, _, hsl, hbs2, _⟩ := slice_part W5 (some ⟨w4.heap.size, 0, none⟩) 32 32 0 d L hbs5 HL.out.1 (Nat.zero_le _) (by omega) (Nat.le_refl _)
      have hsl2 := hsl rfl
      rw [Nat.sub_zero, Nat.sub_zero] at hsl2 hbs2
      rw [List.drop_zero] at hbs2
      have HBS2 := Lib.hid hbs2
      have HNE := Lib.hid (show ∀ q, (Value.slice a m cap).ownBlock = some q → q ≠ w4.heap.size by
        intro q hq
        have h1 := (HO.out.lt q hq).2
        have h2 := HB4.out.size
        omega)
      have HSZ := Lib.hid (show W2.heap.size ≤ W5.heap.size from Nat.le_trans (HBE.out.trans (hb45.mono HBE.out.size)).size (Nat.le_refl _))
      clear r5 z5 b5 hA5 hbs5 hb45 hsl hbs2
      generalize w4.heap.size = P5 at *
      have sa := slice_all32
      go_wp2_with (first
        | (at_builtin; with_reducible refine wpList_append_BS (o := ⟨some 49, _, _, _, _, _⟩) rfl _ _ rfl W2.heap.size (.slice a m cap) m (((expAll key (txt s) k).take n).map (.int .u8)) rfl HO5.out (.slice a2 d 32) (L.take d) rfl HBS2.out ?c4 HSZ.out ?_))
      case c4 => have := HL.out.1; rw [List.length_take]; omega
      intro v' w6 ho6 hg6
      obtain ⟨a6, cap6, rfl, _⟩ := own_shape ho6
      have HO6 := Lib.hid ho6
      have HA6 := Lib.hid (show ArrB w6 P5 24 L from (hg6.block P5 HA5.out.lt (fun e => HNE.out P5 e.symm rfl)).trans HA5.out)
      have HB6 := Lib.hid ((HBE.out.trans (HB5.out.mono HBE.out.size)).grown hg6 HSZ.out (fun q hq => (HO5.out.lt q hq).1))
      have hln : min d L.length = d := by have := HL.out.1; omega
      rw [hln] at HO6 ⊢
      have HLN := Lib.hid hln
      clear ho6 hg6 hln hsl2 sa
      go_wp2_with fail
      go_roundw
      case rel =>
        have hbs6 := BS.of_arr HA6.out HL.out.2
        rw [HL.out.1] at hbs6
        have e1 : m + d = min n (32 * (k + 1)) := by have h1 := HMK.out; have h2 := HCD.out.2; omega
        have hx := HX.out
        rw [← HCD.out.2] at hx
        refine ⟨k + 1, m + d, a6, cap6, some ⟨P5, 0, none⟩, 32, e1, by have := HLT.out; omega, by go_num, rfl, ?_, ?_, ?_, ?_, HB6.out⟩
        · rw [hx, List.map_append, List.map_take, List.map_take]; exact HO6.out
        · rw [HLE.out, HL.out.1]
        · rw [HLE.out, HL.out.1]; exact hbs6
        · rw [HLE.out, HL.out.1]; exact room_of _ _ _ (by omega) (by omega)
      case measure => simp [intOf]; omega
    · have hmn : m = n := by omega
      subst hmn
      have HE := Lib.hid (show (expAll key (txt s) k).take m = expS key (txt s) m by unfold expS; rw [show (m + 31) / 32 = k by omega])
      have hge : (m : Int) ≤ (m : Int) := Int.le_refl _
      clear hm hlt hk
      go_wp2_with fail
      go_ret2
      have ho := HO.out
      rw [HE.out] at ho
      exact ⟨⟨_, rfl, own_mono ho HB2.out.size⟩, HB2.out.trans (HBE.out.mono HB2.out.size)⟩
end Go.Proofs.YtpmeiadnikenmaaDoor
