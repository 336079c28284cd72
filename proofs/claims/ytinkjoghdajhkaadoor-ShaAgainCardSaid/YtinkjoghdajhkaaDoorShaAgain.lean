/-
  'ShaAgain' returns true at every input, and each argument reads behind the call as it read before. Conditions: the package-level variable that the row lists starts as the program's text lays it (the card ties that).
-/
import Derived.Test.YtinkjoghdajhkaaDoorLaid
import Derived.Test.YtinkjoghdajhkaaDoorCards
import Derived.Test.YtinkjoghdajhkaaDoorTie
import Derived.Test.YtinkjoghdajhkaaDoorOne
import Derived.Deep.DeepCutAuto
namespace Go.Proofs.YtinkjoghdajhkaaDoor.shaAgain
open Go.ChangeShapes Go.WideShapes Go.ChangeAt Go.RowKit
set_option linter.unusedVariables false

theorem own_below {w w' : World} {base n : Nat} {e : TypeId} {v : Value} {xs : List Value} (h : w.ownsRow base e 1 v n xs) (hb : Below w.heap.size w w') : w'.ownsRow base e 1 v n xs := by
  refine ⟨h.1, ?_⟩
  rcases h.2 with h2 | ⟨g, cap, cur, hv, hg, hh, r⟩
  · exact .inl h2
  · exact .inr ⟨g, cap, cur, hv, hg, by rw [hb.block g (lt_of_block hh)]; exact hh, r⟩
theorem own_grown {w w' : World} {base n b : Nat} {e : TypeId} {v : Value} {xs : List Value} (h : w.ownsRow base e 1 v n xs) (hb : w.grownBy w' (some b)) (hne : ∀ k, v.ownBlock = some k → k ≠ b) : w'.ownsRow base e 1 v n xs := by
  refine ⟨h.1, ?_⟩
  rcases h.2 with h2 | ⟨g, cap, cur, hv, hg, hh, r⟩
  · exact .inl h2
  · exact .inr ⟨g, cap, cur, hv, hg, by rw [hb.block g (lt_of_block hh) (fun e => hne g (by rw [hv]; rfl) (Option.some.inj e))]; exact hh, r⟩
/-- The parts, and what they are together up to one of them. -/
def seg5 (l : List Int) (k i : Nat) : List Int := if i = 1 then l.take k else if i = 3 then l.drop k else []
def pre5 (l : List Int) (k i : Nat) : List Int := if i ≤ 1 then [] else if i ≤ 3 then l.take k else l
theorem pre5_next (l : List Int) (k i : Nat) (h : i < 5) : pre5 l k i ++ seg5 l k i = pre5 l k (i + 1) := by
  have : i = 0 ∨ i = 1 ∨ i = 2 ∨ i = 3 ∨ i = 4 := by omega
  rcases this with rfl | rfl | rfl | rfl | rfl <;> simp [pre5, seg5]
theorem pre5_len (l : List Int) (k i : Nat) : (pre5 l k i).length ≤ l.length := by
  unfold pre5
  split
  · simp
  · split
    · rw [List.length_take]; omega
    · omega
theorem seg5_len (l : List Int) (k i : Nat) : (seg5 l k i).length ≤ l.length := by
  unfold seg5
  split
  · rw [List.length_take]; omega
  · split
    · rw [List.length_drop]; omega
    · simp
theorem byt_room (x : Int) (l : List Int) (h : Byt l) (h2 : Byt [x, x]) : Byt (x :: (l ++ [x, x])) := by
  intro z hz
  rw [List.mem_cons, List.mem_append] at hz
  rcases hz with rfl | hz | hz
  · exact h2 z (by simp)
  · exact h z hz
  · exact h2 z hz
theorem bs_none (W : World) (a : Option Addr) (c : Nat) (h : a = none → c = 0) : BS W (.slice a 0 c) [] := ⟨a, c, rfl, by intro z hz; simp at hz, h, .inl rfl⟩
theorem info_sl : (Tryd.prog.info? 22).map (·.size) = some 1 := by kernel_rfl
theorem index_5 (v0 v1 v2 v3 v4 : Value) (i : Nat) (h : i < 5) (v : Value) (hv : #[v0, v1, v2, v3, v4][i]? = some v) (w : World) : (Instr.index 45 (.agg #[v0, v1, v2, v3, v4]) (.int .i64 (i : Int))).run Tryd.prog w = .ok v w := by
  obtain ⟨i0, hi, hs⟩ := Option.map_eq_some_iff.1 info_sl
  exact index_agg _ _ _ _ i v i0 _ Tryd.underlying45 Tryd.underlying22 rfl hi hs h hv w

set_option maxRecDepth 100000 in
set_option maxHeartbeats 1600000 in
theorem walk (w : World) (a0 : Option Addr) (len0 cap0 : Nat) (l0 : List Int) (e0 : l0.length = len0) (b0 : BS w (.slice a0 len0 cap0) l0) (m0 : len0 ≤ cap0) (n0 : cap0 ≤ 140737488351232) (a1 : Int) (h10 : 0 ≤ a1) (h11 : a1 ≤ 255) (a2 : Int) (h20 : 0 ≤ a2) (h21 : a2 ≤ 65535) (hK : KT w) :
    Calls Tryd.prog 6 #[.slice a0 len0 cap0, .int .u8 a1, .int .u16 a2] w fun e w' => e = .returned (.bool true) ∧ Below w.heap.size w w' := by
  have HK := Lib.hid hK
  have hpos : 0 < w.heap.size := hK.pos
  have HPOS := Lib.hid hpos
  have HB0 := Lib.hid b0
  have HE := Lib.hid e0
  have HM := Lib.hid (And.intro m0 n0)
  have len0I : (len0 : Int) ≤ 140737488351232 := by omega
  clear hK b0 e0 m0 n0 hpos
  by_cases hbig : (5000 : Int) < (len0 : Int)
  · go_enter Tryd.func6, Tryd.ntmps6
    go_wp2_with fail
    refine (alive2_any w HK.out).mono ?_
    rintro e w1 ⟨rfl, hb1⟩
    go_wp2_with fail
    go_ret
    exact ⟨rfl, hb1⟩
  have lenI : (len0 : Int) ≤ 5000 := by omega
  have len0p : (0 : Int) ≤ (len0 : Int) := by omega
  obtain ⟨k, hk, hkl⟩ : ∃ k : Nat, a2 % ((len0 : Int) + 1) = (k : Int) ∧ k ≤ len0 := ⟨(a2 % ((len0 : Int) + 1)).toNat, by
    have := Int.emod_nonneg a2 (show (len0 : Int) + 1 ≠ 0 by omega)
    omega, by
    have := Int.emod_lt_of_pos a2 (show (0 : Int) < (len0 : Int) + 1 by omega)
    omega⟩
  have kI : (k : Int) ≤ (len0 : Int) := by omega
  have k0 : (0 : Int) ≤ (k : Int) := by omega
  have HKL := Lib.hid hkl
  have LN := Lib.hid (show len0 ≤ 5000 by omega)
  have HY1 := Lib.hid (show Byt [a1] ∧ Byt [a1, a1] from ⟨by intro z hz; simp at hz; omega, by intro z hz; simp at hz; omega⟩)
  clear hbig hkl
  go_enter Tryd.func6, Tryd.ntmps6
  go_wp2_with fail
  refine (alive2_any w HK.out).mono ?_
  rintro e w1 ⟨rfl, hb1⟩
  have HBE1 := Lib.hid hb1
  have HSM := Lib.hid (shasum_any l0 (.slice a0 len0 cap0) w1 (HK.out.below hb1 HPOS.out) (HB0.out.kept hb1) (room_of _ _ _ HM.out.1 (by have := HM.out.2; omega)) (by rw [HE.out]; have := LN.out; omega))
  clear hb1
  go_wp2_with fail
  refine HSM.out.mono ?_
  rintro e w2 ⟨rfl, hb2⟩
  have HBE2 := Lib.hid (HBE1.out.trans (hb2.mono HBE1.out.size))
  have SH0 := Lib.hid (size_h32 (hashS l0) (hashS_length l0))
  have SE := Lib.hid (show (u8s (List.replicate 32 0)).size = (u8s (hashS l0)).size by rw [u8s_size, u8s_size, hashS_length]; rfl)
  have hz2 := HBE2.out.size
  have HZ2 := Lib.hid hz2
  clear hb2 hz2
  go_upto_region 6 with (first
    | (with_reducible refine wpList_store_row (o := ⟨none, .store _ (.tmp 7) _, _, _, _, _⟩) rfl 24 _ _ rfl w2.heap.size (u8s (hashS l0)) rfl rfl 24 _ (heap_alloc_new w2 _) SH0.out ?c1 (u8s_one _) ?_))
  case c1 => exact SE.out
  generalize hW3 : World.setRow _ w2.heap.size _ = W3
  obtain ⟨r3, z3, b3⟩ := fresh_row w2 (u8s (List.replicate 32 0)) (u8s (hashS l0)) 24 W3 hW3.symm
  clear hW3
  have HX3 := Lib.hid (show ArrB W3 w2.heap.size 24 (hashS l0) from r3)
  have HBE3 := Lib.hid (HBE2.out.trans (b3.mono HBE2.out.size))
  clear r3 z3 b3
  generalize w2.heap.size = bx at *
  have hown3 := own_of_arr (m := 1) (c := 1) (show ArrB (W3.alloc (.cells (u8s [a1]) 5)) W3.heap.size 5 [a1] from heap_alloc_new W3 _) rfl (Nat.le_refl _) (by unfold maxLen; omega)
  have HOW := Lib.hid (show (W3.alloc (.cells #[.int .u8 a1] 5)).ownsRow W3.heap.size 5 1 (.slice (some ⟨W3.heap.size, 0, none⟩) 1 1) 1 [.int .u8 a1] from hown3)
  have HA3 := Lib.hid (HB0.out.kept (HBE3.out.alloc HBE3.out.size (.cells #[.int .u8 a1] 5)))
  have SZ3 := Lib.hid HBE3.out.size
  clear hown3
  go_wp2_with (first
    | (at_builtin; (with_reducible refine wpList_append_BS (o := ⟨some 27, _, _, _, _, _⟩) rfl _ _ rfl W3.heap.size (.slice (some ⟨W3.heap.size, 0, none⟩) 1 1) 1 [.int .u8 a1] rfl HOW.out (.slice a0 len0 cap0) l0 rfl HA3.out (by have := LN.out; have := HE.out; omega) (by simp) ?_); intro v4 w4 ho4 hg4; have HO4 := Lib.hid (own_below ho4 ((Below.refl w4.heap.size w4).alloc (Nat.le_refl _) (.cells #[.int .u8 a1, .int .u8 a1] 5))); have HG4 := Lib.hid hg4; have HL4 := Lib.hid (show BS (w4.alloc (.cells #[.int .u8 a1, .int .u8 a1] 5)) (.slice (some ⟨w4.heap.size, 0, none⟩) 2 2) [a1, a1] from BS.lit w4 [a1, a1] HY1.out.2); have HS4 := Lib.hid (Nat.le_trans (show W3.heap.size ≤ (W3.alloc (.cells #[.int .u8 a1] 5)).heap.size by simp) hg4.size); have HV4 := Lib.hid ho4.lt; clear ho4 hg4)
    | (at_builtin; (with_reducible refine wpList_append_BS (o := ⟨some 31, _, _, _, _, _⟩) rfl _ _ rfl W3.heap.size v4 (1 + l0.length) ([.int .u8 a1] ++ l0.map (Value.int .u8)) rfl HO4.out (.slice (some ⟨w4.heap.size, 0, none⟩) 2 2) [a1, a1] rfl HL4.out (by have := LN.out; have := HE.out; simp; omega) (by have := HS4.out; simp; omega) ?_); intro v5 w5 ho5 hg5; have HO5 := Lib.hid ho5; have HG5 := Lib.hid hg5; clear ho5 hg5))
  have b35 : Below W3.heap.size W3 w5 := ((((Below.refl W3.heap.size W3).alloc (Nat.le_refl _) _).grown HG4.out (by simp) (by intro k hk; simp [Value.ownBlock] at hk; omega)).alloc HS4.out _).grown HG5.out (by have := HS4.out; simp; omega) (fun k hk => (HV4.out k hk).1)
  obtain ⟨n, hn⟩ : ∃ n, n = len0 + 3 := ⟨_, rfl⟩
  have ho5 := HO5.out
  rw [show 1 + l0.length + [a1, a1].length = n by rw [HE.out, hn]; simp; omega] at ho5
  have hmap : [Value.int .u8 a1] ++ l0.map (Value.int .u8) ++ [a1, a1].map (Value.int .u8) = (a1 :: (l0 ++ [a1, a1])).map (Value.int .u8) := by simp
  rw [hmap] at ho5
  obtain ⟨g, cap, hv5, hroom, hg5, hg5'⟩ : ∃ g cap, v5 = .slice (some ⟨g, 0, none⟩) n cap ∧ n ≤ cap ∧ W3.heap.size ≤ g ∧ g < w5.heap.size := by
    rcases ho5.2 with ⟨rfl, h0⟩ | ⟨g, cap, cur, rfl, hg, hgc, hn', _⟩
    · omega
    · exact ⟨g, cap, rfl, hn', hg, lt_of_block hgc⟩
  have hrm := room_of_own ho5
  subst hv5
  have hcap := (hrm _ _ _ rfl).2
  have HRM := Lib.hid (And.intro hroom hcap)
  have HGG := Lib.hid (And.intro hg5 hg5')
  have HO := Lib.hid ho5
  have HNN := Lib.hid hn
  have HBE5 := Lib.hid (HBE3.out.trans (b35.mono HBE3.out.size))
  have HX5 := Lib.hid (HX3.out.below b35 HX3.out.lt)
  have nI : (n : Int) ≤ 5003 := by omega
  have n3 : (3 : Int) ≤ (n : Int) := by omega
  clear b35 ho5 hmap hroom hg5 hg5' hrm hcap hn
  go_wp2_with fail
  refine (new_any _).mono ?_
  rintro e w6 ⟨h, rfl, hh, hhl, hb6⟩
  have hbel6 := HBE5.out.trans (hb6.mono HBE5.out.size)
  have HT6 := Lib.hid (show One w w6 h [] from ⟨hbel6, HK.out.below hbel6 HPOS.out, hh, Nat.le_trans HBE5.out.size hhl⟩)
  have HO6 := Lib.hid (own_below HO.out hb6)
  have HX6 := Lib.hid (HX5.out.below hb6 HX5.out.lt)
  have HNG := Lib.hid (show h ≠ g ∧ h ≠ bx by
    have := HGG.out.2
    have := HX5.out.lt
    omega)
  clear hh hhl hb6 hbel6
  go_wp2_with fail
  rw [hk]
  obtain ⟨c1, _, _, hsA, hbs1⟩ := slice_seg w a0 len0 cap0 0 k l0 HB0.out HE.out (by omega) HKL.out HM.out.1
  obtain ⟨c2, _, hsB, _, hbs2⟩ := slice_seg w a0 len0 cap0 k len0 l0 HB0.out HE.out HKL.out (Nat.le_refl _) HM.out.1
  have hs1 := hsA rfl
  have hs2 := hsB rfl
  rw [Nat.sub_zero, Nat.sub_zero] at hs1 hbs1
  rw [List.drop_zero] at hbs1
  have hbs2' : BS w (.slice c2 (len0 - k) (cap0 - k)) (l0.drop k) := by
    rw [List.take_of_length_le (by rw [List.length_drop, HE.out]; omega)] at hbs2
    exact hbs2
  have HP1 := Lib.hid hbs1
  have HP2 := Lib.hid hbs2'
  clear hsA hsB hbs1 hbs2 hbs2'
  refine wp_region_noPanic ?_
  refine wp_region_held_drew (S := fun _ => True) (by kernel_rfl) trivial (fun hHeld => ?_)
  refine wpAnyH_take (i := 0) (oi := ⟨some 39, _, _, _, _, _⟩) (v := ?_) rfl (by kernel_rfl) (by decide +kernel) (by decide +kernel) (fun _ _ _ h => h) (Or.inl ⟨by rfl, ?_⟩) (by assumption) ?_
  rotate_left 1
  · (intro w' hSw; go_simp; try with_reducible rfl)
  try simp only [Act.put, List.setIfInBounds_toArray, List.set_cons_zero, List.set_cons_succ]
  refine wpAnyH_take (i := 1) (oi := ⟨some 40, _, _, _, _, _⟩) (v := ?_) rfl (by kernel_rfl) (by decide +kernel) (by decide +kernel) (fun _ _ _ h => h) (Or.inl ⟨by rfl, ?_⟩) (by assumption) ?_
  rotate_left 1
  · (intro w' hSw; go_simp; try with_reducible rfl)
  try simp only [Act.put, List.setIfInBounds_toArray, List.set_cons_zero, List.set_cons_succ]
  refine wpAnyH_take (i := 2) (oi := ⟨some 41, _, _, _, _, _⟩) (v := ?_) rfl (by kernel_rfl) (by decide +kernel) (by decide +kernel) (fun _ _ _ h => h) (Or.inl ⟨by rfl, ?_⟩) (by assumption) ?_
  rotate_left 1
  · (intro w' hSw; go_simp; try with_reducible rfl)
  try simp only [Act.put, List.setIfInBounds_toArray, List.set_cons_zero, List.set_cons_succ]
  refine wpAnyH_take (i := 4) (oi := ⟨some 43, _, _, _, _, _⟩) (v := ?_) rfl (by kernel_rfl) (by decide +kernel) (by decide +kernel) (fun _ _ _ h => h) (Or.inl ⟨by rfl, ?_⟩) (by assumption) ?_
  rotate_left 1
  · (intro w' hSw; go_simp; try with_reducible rfl)
  try simp only [Act.put, List.setIfInBounds_toArray, List.set_cons_zero, List.set_cons_succ]
  refine wpAnyH_take (i := 5) (oi := ⟨some 44, _, _, _, _, _⟩) (v := ?_) rfl (by kernel_rfl) (by decide +kernel) (by decide +kernel) (fun _ _ _ h => h) (Or.inl ⟨by rfl, ?_⟩) (by assumption) ?_
  rotate_left 1
  · (intro w' hSw; go_simp; try with_reducible rfl)
  try simp only [Act.put, List.setIfInBounds_toArray, List.set_cons_zero, List.set_cons_succ]
  refine wpAnyH_take (i := 6) (oi := ⟨some 45, _, _, _, _, _⟩) (v := ?_) rfl (by kernel_rfl) (by decide +kernel) (by decide +kernel) (fun _ _ _ h => h) (Or.inl ⟨by rfl, ?_⟩) (by assumption) ?_
  rotate_left 1
  · (intro w' hSw; go_simp; try with_reducible rfl)
  try simp only [Act.put, List.setIfInBounds_toArray, List.set_cons_zero, List.set_cons_succ]
  refine wpAnyH_take (i := 8) (oi := ⟨some 47, _, _, _, _, _⟩) (v := ?_) rfl (by kernel_rfl) (by decide +kernel) (by decide +kernel) (fun _ _ _ h => h) (Or.inl ⟨by rfl, ?_⟩) (by assumption) ?_
  rotate_left 1
  · (intro w' hSw; go_simp; try with_reducible rfl)
  try simp only [Act.put, List.setIfInBounds_toArray, List.set_cons_zero, List.set_cons_succ]
  refine wpAnyH_ready (rs := [3]) (by decide +kernel) (by simp) ?_
  refine AllReadyH.cons rfl (fun K hK => ?_) AllReadyH.nil
  go_simp
  refine hK.out _ _ trivial (fun hHeld => ?_)
  clear hK K
  try simp only [Act.put, List.setIfInBounds_toArray, List.set_cons_zero, List.set_cons_succ]
  refine wpAnyH_take (i := 7) (oi := ⟨some 46, _, _, _, _, _⟩) (v := ?_) rfl (by kernel_rfl) (by decide +kernel) (by decide +kernel) (fun _ _ _ h => h) (Or.inl ⟨by rfl, ?_⟩) (by assumption) ?_
  rotate_left 1
  · (intro w' hSw; go_simp; try with_reducible rfl)
  try simp only [Act.put, List.setIfInBounds_toArray, List.set_cons_zero, List.set_cons_succ]
  refine wpAnyH_done (by decide +kernel) ?_ _
  refine NoPanic.normal ?_
  go_wp2_with fail
  generalize hW7 : World.drew (World.alloc w6 _) = W7
  have b7 : Below w6.heap.size w6 W7 := by rw [← hW7]; exact ((Below.refl w6.heap.size w6).alloc (Nat.le_refl _) _).drew
  have HT7 := Lib.hid (HT6.out.below b7)
  have HO7 := Lib.hid (own_below HO6.out b7)
  have HX7 := Lib.hid (HX6.out.below b7 HX6.out.lt)
  clear hW7 b7 hs1 hs2
  generalize w6.heap.size = e0 at *
  have HPART := Lib.hid (show ∀ i : Nat, i < 5 → ∃ (a' : Option Addr) (n' c' : Nat), (∀ W', (Instr.index 45 (.agg #[.slice none 0 0, .slice c1 k cap0, .slice (some ⟨e0, 0, none⟩) 0 0, .slice c2 (len0 - k) (cap0 - k), .slice none 0 0]) (.int .i64 (i : Int))).run Tryd.prog W' = .ok (.slice a' n' c') W') ∧
      (∀ W, Below w.heap.size w W → BS W (.slice a' n' c') (seg5 l0 k i)) ∧ n' ≤ c' ∧ c' ≤ 9223372036854775807 ∧ Off h (.slice a' n' c') from by
    intro i hi
    have hk2 := HKL.out
    have hm1 := HM.out.1
    have hm2 := HM.out.2
    have hh := HT7.out.hl
    have : i = 0 ∨ i = 1 ∨ i = 2 ∨ i = 3 ∨ i = 4 := by omega
    rcases this with rfl | rfl | rfl | rfl | rfl
    · exact ⟨none, 0, 0, fun W' => index_5 _ _ _ _ _ 0 hi _ rfl W', fun W _ => bs_none W none 0 (fun _ => rfl), by omega, by omega, by intro x n c e h0; injection e with _ e2 _; omega⟩
    · exact ⟨c1, k, cap0, fun W' => index_5 _ _ _ _ _ 1 hi _ rfl W', fun W hb => HP1.out.kept hb, by omega, by omega, off_old HP1.out hh⟩
    · exact ⟨some ⟨e0, 0, none⟩, 0, 0, fun W' => index_5 _ _ _ _ _ 2 hi _ rfl W', fun W _ => bs_none W _ 0 (fun _ => rfl), by omega, by omega, by intro x n c e h0; injection e with _ e2 _; omega⟩
    · exact ⟨c2, len0 - k, cap0 - k, fun W' => index_5 _ _ _ _ _ 3 hi _ rfl W', fun W hb => HP2.out.kept hb, by omega, by omega, off_old HP2.out hh⟩
    · exact ⟨none, 0, 0, fun W' => index_5 _ _ _ _ _ 4 hi _ rfl W', fun W _ => bs_none W none 0 (fun _ => rfl), by omega, by omega, by intro x n c e h0; injection e with _ e2 _; omega⟩)
  go_loopw [47] (fun v47 wr => ∃ i : Nat, i ≤ 5 ∧ v47 = .int .i64 (i : Nat) ∧ One w wr h (pre5 l0 k i) ∧ wr.ownsRow W3.heap.size 5 1 (.slice (some ⟨g, 0, none⟩) n cap) n ((a1 :: (l0 ++ [a1, a1])).map (Value.int .u8)) ∧ ArrB wr bx 24 (hashS l0)) (fun v _ => 5 - (intOf v).toNat)
  case atStart => exact ⟨0, by omega, rfl, HT7.out, HO7.out, HX7.out⟩
  case round =>
    obtain ⟨i, hi, rfl, hT, hO, hX⟩ := hrel
    by_cases hlt : i < 5
    · obtain ⟨a', n', c', hix, hbs, hnc, hcc, hoff⟩ := HPART.out i hlt
      have hw := write_any h (pre5 l0 k i) (seg5 l0 k i) _ wr hT.hh hT.kt (hT.pos HPOS.out) (hbs wr hT.bel) (room_of _ _ _ hnc hcc) hoff (by have := pre5_len l0 k i; have := seg5_len l0 k i; have := LN.out; have := HE.out; omega)
      rw [pre5_next l0 k i hlt] at hw
      have HW := Lib.hid hw
      have HTT := Lib.hid hT
      have HOO := Lib.hid hO
      have HXX := Lib.hid hX
      have hiI : (i : Int) < 5 := by omega
      have hi0 : (0 : Int) ≤ (i : Int) := by omega
      have HLT := Lib.hid hlt
      clear hw hbs hnc hcc hoff hT hO hX hlt hi
      go_wp2_with fail
      refine HW.out.mono ?_
      rintro e w8 ⟨rfl, hr8, hg8⟩
      have HT8 := Lib.hid (HTT.out.put HPOS.out hg8 hr8.has)
      have HO8 := Lib.hid (own_grown HOO.out hg8 (fun q hq => by
        have : q = g := by simpa [Value.ownBlock] using hq.symm
        have := HNG.out.1
        omega))
      have HX8 := Lib.hid (HXX.out.grown hg8 (fun e => HNG.out.2 e.symm))
      clear hr8 hg8
      go_wp2_with fail
      go_roundw
      case rel => exact ⟨i + 1, by have := HLT.out; omega, by go_num, HT8.out, HO8.out, HX8.out⟩
      case measure => simp [intOf]; omega
    · have hge : (5 : Int) ≤ (i : Int) := by omega
      have hp : pre5 l0 k i = l0 := by unfold pre5; rw [if_neg (by omega), if_neg (by omega)]
      rw [hp] at hT
      have HT9 := Lib.hid hT
      have HO9 := Lib.hid hO
      have HX9 := Lib.hid hX
      have HS9 := Lib.hid (sum_any h l0 wr hT.hh hT.kt (by rw [HE.out]; have := LN.out; omega))
      clear hT hO hX hp hlt hi
      go_wp2_with fail
      refine HS9.out.mono ?_
      rintro e w10 ⟨rfl, hb10⟩
      have HT10 := Lib.hid (HT9.out.below hb10)
      have HO10 := Lib.hid (own_below HO9.out hb10)
      have HX10 := Lib.hid (HX9.out.below hb10 HX9.out.lt)
      clear hb10
      go_upto_region 16 with (first
        | (with_reducible refine wpList_store_row (o := ⟨none, .store _ (.tmp 13) _, _, _, _, _⟩) rfl 24 _ _ rfl w10.heap.size (u8s (hashS l0)) rfl rfl 24 _ (heap_alloc_new w10 _) SH0.out ?c2 (u8s_one _) ?_))
      case c2 => exact SE.out
      generalize hW11 : World.setRow _ w10.heap.size _ = W11
      obtain ⟨r11, z11, b11⟩ := fresh_row w10 (u8s (List.replicate 32 0)) (u8s (hashS l0)) 24 W11 hW11.symm
      clear hW11
      have HT11 := Lib.hid (HT10.out.below b11)
      have HO11 := Lib.hid (own_below HO10.out b11)
      have HX11 := Lib.hid (HX10.out.below b11 HX10.out.lt)
      have HY11 := Lib.hid (show ArrB W11 w10.heap.size 24 (hashS l0) from r11)
      have HS11 := Lib.hid (sum_any h l0 W11 HT11.out.hh HT11.out.kt (by rw [HE.out]; have := LN.out; omega))
      clear r11 z11 b11
      generalize w10.heap.size = by' at *
      go_wp2_with fail
      refine HS11.out.mono ?_
      rintro e w12 ⟨rfl, hb12⟩
      have HT12 := Lib.hid (HT11.out.below hb12)
      have HO12 := Lib.hid (own_below HO11.out hb12)
      have HX12 := Lib.hid (HX11.out.below hb12 HX11.out.lt)
      have HY12 := Lib.hid (HY11.out.below hb12 HY11.out.lt)
      clear hb12
      go_wp2_with (first
        | (with_reducible refine wpList_store_row (o := ⟨none, .store _ (.tmp 15) _, _, _, _, _⟩) rfl 24 _ _ rfl w12.heap.size (u8s (hashS l0)) rfl rfl 24 _ (heap_alloc_new w12 _) SH0.out ?c3 (u8s_one _) ?_))
      case c3 => exact SE.out
      generalize hW13 : World.setRow _ w12.heap.size _ = W13
      obtain ⟨r13, z13, b13⟩ := fresh_row w12 (u8s (List.replicate 32 0)) (u8s (hashS l0)) 24 W13 hW13.symm
      clear hW13
      have HT13 := Lib.hid (HT12.out.below b13)
      have HO13 := Lib.hid (own_below HO12.out b13)
      have HX13 := Lib.hid (HX12.out.below b13 HX12.out.lt)
      have HY13 := Lib.hid (HY12.out.below b13 HY12.out.lt)
      have HZ13 := Lib.hid (show ArrB W13 w12.heap.size 24 (hashS l0) from r13)
      clear r13 z13 b13
      generalize w12.heap.size = bz at *
      have hBSg := BS.of_own HO13.out (by simp only [List.length_cons, List.length_append, List.length_nil]; rw [HE.out, HNN.out]) (byt_room a1 l0 HB0.out.byt HY1.out.2)
      obtain ⟨c3, hs3, _, _, hbs3, _⟩ := slice_part W13 (some ⟨g, 0, none⟩) n cap 1 (1 + len0) _ hBSg (by simp only [List.length_cons, List.length_append, List.length_nil]; rw [HE.out, HNN.out]) (by omega) (by rw [HNN.out]; omega) HRM.out.1
      have e31 : 1 + len0 - 1 = len0 := by omega
      rw [e31] at hs3 hbs3
      rw [List.drop_succ_cons, List.drop_zero, List.take_append_of_le_length (by rw [HE.out]; exact Nat.le_refl _), List.take_of_length_le (by rw [HE.out]; exact Nat.le_refl _)] at hbs3
      have hs3' : ∀ W' : World, (Instr.slice 22 (.slice (some ⟨g, 0, none⟩) n cap) (some (.int .i64 1)) (some (.int .i64 (1 + (len0 : Int)))) none).run Tryd.prog W' = .ok (.slice c3 len0 (cap - 1)) W' := by
        have e : ((1 + len0 : Nat) : Int) = 1 + (len0 : Int) := by omega
        rw [e] at hs3
        exact hs3
      have cA := HO13.out.cellAt 0 (by rw [HNN.out]; omega)
      have cB := HO13.out.cellAt (len0 + 2) (by rw [HNN.out]; omega)
      have gA : (Option.map (Value.int .u8) ((a1 :: (l0 ++ [a1, a1]))[0]?)) = some (.int .u8 a1) := rfl
      have gB : (Option.map (Value.int .u8) ((a1 :: (l0 ++ [a1, a1]))[len0 + 2]?)) = some (.int .u8 a1) := by
        rw [List.getElem?_cons_succ, List.getElem?_append_right (by rw [HE.out]; omega), HE.out, show len0 + 1 - len0 = 1 by omega]; rfl
      rw [List.getElem?_map, gA] at cA
      rw [List.getElem?_map, gB] at cB
      have hS : ∀ W : World, Below W13.heap.size W13 W → (W.rangeAt bx 0 (u8s (hashS l0)).toList ∧ W.rangeAt by' 0 (u8s (hashS l0)).toList ∧ W.rangeAt bz 0 (u8s (hashS l0)).toList ∧ W.cell? ⟨g, 0, none⟩ = some (.int .u8 a1) ∧ W.cell? ⟨g, len0 + 2, none⟩ = some (.int .u8 a1)) := fun W hb =>
        ⟨(HX13.out.below hb HX13.out.lt).range, (HY13.out.below hb HY13.out.lt).range, (HZ13.out.below hb HZ13.out.lt).range, (hb.cell (block_lt_of_cell cA)).trans cA, (hb.cell (block_lt_of_cell cB)).trans cB⟩
      have HS := Lib.hid hS
      have HSD := Lib.hid (hS _ (Below.refl _ W13).drew)
      have hu := Tryd.underlying24
      have hiX : (Tryd.prog.info? 24).map (·.size) = some (u8s (hashS l0)).toList.length := by rw [info_h32, Array.length_toList, u8s_size, hashS_length]
      have heX := eq_hash_same (hashS l0) (hashS_length _) (hashS_byt _)
      have SUMA := Lib.hid (fun (W : World) (hb : Below W13.heap.size W13 W) => shasum_any l0 (.slice c3 len0 (cap - 1)) W (HT13.out.kt.below hb HT13.out.kt.pos) (hbs3.kept hb) (room_of _ _ _ (by have := HRM.out.1; have := HNN.out; omega) (by have := HRM.out.2; omega)) (by rw [HE.out]; have := LN.out; omega))
      have SUMB := Lib.hid (fun (W : World) (hb : Below W13.heap.size W13 W) => shasum_any l0 (.slice a0 len0 cap0) W (HT13.out.kt.below hb HT13.out.kt.pos) (HB0.out.kept (HT13.out.bel.trans (hb.mono HT13.out.bel.size))) (room_of _ _ _ HM.out.1 (by have := HM.out.2; omega)) (by rw [HE.out]; have := LN.out; omega))
      have hw1 : IntKind.i64.wrap (1 + (len0 : Int)) = 1 + (len0 : Int) := IntWalk.i64_in _ (by omega)
      obtain ⟨m, hm⟩ : ∃ m, m = len0 + 2 := ⟨_, rfl⟩
      have hnm : (n : Int) - 1 = (m : Int) := by have := HNN.out; omega
      have hmn : (m : Int) < (n : Int) := by omega
      have hm0 : (0 : Int) ≤ (m : Int) := by omega
      have hw2 : IntKind.i64.wrap (m : Int) = (m : Int) := IntWalk.i64_in _ (by omega)
      rw [← hm] at HS HSD
      clear hS hge hs3 hbs3 hBSg cA cB gA gB e31 hm
      refine wp_region_noPanic ?_
      refine wp_region_held_drew (S := fun w' => w'.rangeAt bx 0 (u8s (hashS l0)).toList ∧ w'.rangeAt by' 0 (u8s (hashS l0)).toList ∧ w'.rangeAt bz 0 (u8s (hashS l0)).toList ∧ w'.cell? ⟨g, 0, none⟩ = some (.int .u8 a1) ∧ w'.cell? ⟨g, m, none⟩ = some (.int .u8 a1)) (by kernel_rfl) HSD.out (fun hHeld => ?_)
      refine wpAnyH_take (i := 0) (oi := ⟨some 65, _, _, _, _, _⟩) (v := ?_) rfl (by kernel_rfl) (by decide +kernel) (by decide +kernel) (fun _ _ _ h => h) (Or.inl ⟨by rfl, ?_⟩) (by assumption) ?_
      rotate_left 1
      · (intro w' hSw; go_simp; try with_reducible rfl)
      try simp only [Act.put, List.setIfInBounds_toArray, List.set_cons_zero, List.set_cons_succ]
      refine wpAnyH_take (i := 1) (oi := ⟨some 66, _, _, _, _, _⟩) (v := ?_) rfl (by kernel_rfl) (by decide +kernel) (by decide +kernel) (fun _ _ _ h => h) (Or.inl ⟨by rfl, ?_⟩) (by assumption) ?_
      rotate_left 1
      · (intro w' hSw; go_simp; try with_reducible rfl)
      try simp only [Act.put, List.setIfInBounds_toArray, List.set_cons_zero, List.set_cons_succ]
      refine wpAnyH_take (i := 2) (oi := ⟨some 67, _, _, _, _, _⟩) (v := ?_) rfl (by kernel_rfl) (by decide +kernel) (by decide +kernel) (fun _ _ _ h => h) (Or.inl ⟨by rfl, ?_⟩) (by assumption) ?_
      rotate_left 1
      · (intro w' hSw; go_simp; try with_reducible rfl)
      try simp only [Act.put, List.setIfInBounds_toArray, List.set_cons_zero, List.set_cons_succ]
      refine wpAnyH_take (i := 3) (oi := ⟨some 68, _, _, _, _, _⟩) (v := ?_) rfl (by kernel_rfl) (by decide +kernel) (by decide +kernel) (fun _ _ _ h => h) (Or.inl ⟨by rfl, ?_⟩) (by assumption) ?_
      rotate_left 1
      · (intro w' hSw; go_simp; try with_reducible rfl)
      try simp only [Act.put, List.setIfInBounds_toArray, List.set_cons_zero, List.set_cons_succ]
      refine wpAnyH_take (i := 4) (oi := ⟨some 69, _, _, _, _, _⟩) (v := ?_) rfl (by kernel_rfl) (by decide +kernel) (by decide +kernel) (fun _ _ _ h => h) (Or.inl ⟨by rfl, ?_⟩) (by assumption) ?_
      rotate_left 1
      · (intro w' hSw; go_simp; try with_reducible rfl)
      try simp only [Act.put, List.setIfInBounds_toArray, List.set_cons_zero, List.set_cons_succ]
      refine wpAnyH_take (i := 6) (oi := ⟨some 71, _, _, _, _, _⟩) rfl (by kernel_rfl) (by decide +kernel) (by decide +kernel) (fun _ _ _ h => h) (yieldsIf_load_mid (by rfl) _ _ rfl (bx) 0 rfl (u8s (hashS l0)).toList _ (fun w' h => h.1) hu rfl hiX) (by assumption) ?_
      try simp only [Act.put, List.setIfInBounds_toArray, List.set_cons_zero, List.set_cons_succ, Array.toArray_toList]
      refine wpAnyH_ready (rs := [5]) (by decide +kernel) (by simp) ?_
      refine AllReadyH.cons rfl (fun K hK => ?_) AllReadyH.nil
      go_simp
      go_at_call 11
      refine (SUMA.out W13.drew (Below.refl _ W13).drew).mono ?_
      rintro e w14 ⟨rfl, hb14⟩
      have Q14 := Lib.hid ((Below.refl W13.heap.size W13).drew.trans hb14)
      clear hb14
      go_wp2_with fail
      refine hK.out _ _ (HS.out _ Q14.out) (fun hHeld => ?_)
      clear hK K
      try simp only [Act.put, List.setIfInBounds_toArray, List.set_cons_zero, List.set_cons_succ]
      refine wpAnyH_take (i := 7) (oi := ⟨some 72, _, _, _, _, _⟩) (v := ?_) rfl (by kernel_rfl) (by decide +kernel) (by decide +kernel) (fun _ _ _ h => h) (Or.inl ⟨by rfl, ?_⟩) (by assumption) ?_
      rotate_left 1
      · (intro w' hSw; go_simp; try with_reducible rfl)
      try simp only [Act.put, List.setIfInBounds_toArray, List.set_cons_zero, List.set_cons_succ]
      refine wpAnyH_take (i := 8) (oi := ⟨some 73, _, _, _, _, _⟩) (v := ?_) rfl (by kernel_rfl) (by decide +kernel) (by decide +kernel) (fun _ _ _ h => h) (Or.inl ⟨by rfl, ?_⟩) (by assumption) ?_
      rotate_left 1
      · (intro w' hSw; go_simp; try with_reducible rfl)
      try simp only [Act.put, List.setIfInBounds_toArray, List.set_cons_zero, List.set_cons_succ]
      refine wpAnyH_take (i := 9) (oi := ⟨some 74, _, _, _, _, _⟩) (v := ?_) rfl (by kernel_rfl) (by decide +kernel) (by decide +kernel) (fun _ _ _ h => h) (Or.inl ⟨by rfl, ?_⟩) (by assumption) ?_
      rotate_left 1
      · (intro w' hSw; go_simp; try with_reducible rfl)
      try simp only [Act.put, List.setIfInBounds_toArray, List.set_cons_zero, List.set_cons_succ]
      refine wpAnyH_take (i := 11) (oi := ⟨some 76, _, _, _, _, _⟩) rfl (by kernel_rfl) (by decide +kernel) (by decide +kernel) (fun _ _ _ h => h) (yieldsIf_load_mid (by rfl) _ _ rfl (bx) 0 rfl (u8s (hashS l0)).toList _ (fun w' h => h.1) hu rfl hiX) (by assumption) ?_
      try simp only [Act.put, List.setIfInBounds_toArray, List.set_cons_zero, List.set_cons_succ, Array.toArray_toList]
      refine wpAnyH_ready (rs := [10]) (by decide +kernel) (by simp) ?_
      refine AllReadyH.cons rfl (fun K hK => ?_) AllReadyH.nil
      go_simp
      go_at_call 11
      refine (SUMB.out w14 Q14.out).mono ?_
      rintro e w15 ⟨rfl, hb15⟩
      have Q15 := Lib.hid (Q14.out.trans (hb15.mono Q14.out.size))
      clear hb15
      go_wp2_with fail
      refine hK.out _ _ (HS.out _ Q15.out) (fun hHeld => ?_)
      clear hK K
      try simp only [Act.put, List.setIfInBounds_toArray, List.set_cons_zero, List.set_cons_succ]
      refine wpAnyH_take (i := 12) (oi := ⟨some 77, _, _, _, _, _⟩) (v := ?_) rfl (by kernel_rfl) (by decide +kernel) (by decide +kernel) (fun _ _ _ h => h) (Or.inl ⟨by rfl, ?_⟩) (by assumption) ?_
      rotate_left 1
      · (intro w' hSw; go_simp; try with_reducible rfl)
      try simp only [Act.put, List.setIfInBounds_toArray, List.set_cons_zero, List.set_cons_succ]
      refine wpAnyH_take (i := 13) (oi := ⟨some 78, _, _, _, _, _⟩) (v := ?_) rfl (by kernel_rfl) (by decide +kernel) (by decide +kernel) (fun _ _ _ h => h) (Or.inl ⟨by rfl, ?_⟩) (by assumption) ?_
      rotate_left 1
      · (intro w' hSw; go_simp; try with_reducible rfl)
      try simp only [Act.put, List.setIfInBounds_toArray, List.set_cons_zero, List.set_cons_succ]
      refine wpAnyH_take (i := 14) (oi := ⟨some 79, _, _, _, _, _⟩) (v := ?_) rfl (by kernel_rfl) (by decide +kernel) (by decide +kernel) (fun _ _ _ h => h) (Or.inl ⟨by rfl, ?_⟩) (by assumption) ?_
      rotate_left 1
      · (intro w' hSw; go_simp; try with_reducible rfl)
      try simp only [Act.put, List.setIfInBounds_toArray, List.set_cons_zero, List.set_cons_succ]
      refine wpAnyH_take (i := 15) (oi := ⟨some 80, _, _, _, _, _⟩) (v := ?_) rfl (by kernel_rfl) (by decide +kernel) (by decide +kernel) (fun _ _ _ h => h) (Or.inl ⟨by rfl, ?_⟩) (by assumption) ?_
      rotate_left 1
      · (intro w' hSw; go_simp; try with_reducible rfl)
      try simp only [Act.put, List.setIfInBounds_toArray, List.set_cons_zero, List.set_cons_succ]
      refine wpAnyH_take (i := 16) (oi := ⟨some 81, _, _, _, _, _⟩) (v := ?_) rfl (by kernel_rfl) (by decide +kernel) (by decide +kernel) (fun _ _ _ h => h) (Or.inl ⟨by rfl, ?_⟩) (by assumption) ?_
      rotate_left 1
      · (intro w' hSw; go_simp; try with_reducible rfl)
      try simp only [Act.put, List.setIfInBounds_toArray, List.set_cons_zero, List.set_cons_succ]
      refine wpAnyH_take (i := 17) (oi := ⟨some 82, _, _, _, _, _⟩) (v := ?_) rfl (by kernel_rfl) (by decide +kernel) (by decide +kernel) (fun _ _ _ h => h) (Or.inl ⟨by rfl, ?_⟩) (by assumption) ?_
      rotate_left 1
      · (intro w' hSw; go_simp; try with_reducible rfl)
      try simp only [Act.put, List.setIfInBounds_toArray, List.set_cons_zero, List.set_cons_succ]
      refine wpAnyH_take (i := 18) (oi := ⟨some 83, _, _, _, _, _⟩) (v := ?_) rfl (by kernel_rfl) (by decide +kernel) (by decide +kernel) (fun _ _ _ h => h) (Or.inl ⟨by rfl, ?_⟩) (by assumption) ?_
      rotate_left 1
      · (intro w' hSw; go_simp; try with_reducible rfl)
      try simp only [Act.put, List.setIfInBounds_toArray, List.set_cons_zero, List.set_cons_succ]
      refine wpAnyH_take (i := 19) (oi := ⟨some 84, _, _, _, _, _⟩) (v := ?_) rfl (by kernel_rfl) (by decide +kernel) (by decide +kernel) (fun _ _ _ h => h) (Or.inl ⟨by rfl, ?_⟩) (by assumption) ?_
      rotate_left 1
      · (intro w' hSw; go_simp; try with_reducible rfl)
      try simp only [Act.put, List.setIfInBounds_toArray, List.set_cons_zero, List.set_cons_succ]
      refine wpAnyH_take (i := 20) (oi := ⟨some 85, _, _, _, _, _⟩) (v := ?_) rfl (by kernel_rfl) (by decide +kernel) (by decide +kernel) (fun _ _ _ h => h) (Or.inl ⟨by rfl, ?_⟩) (by assumption) ?_
      rotate_left 1
      · (intro w' hSw; go_simp; try with_reducible rfl)
      try simp only [Act.put, List.setIfInBounds_toArray, List.set_cons_zero, List.set_cons_succ]
      refine wpAnyH_take (i := 21) (oi := ⟨some 86, _, _, _, _, _⟩) (v := ?_) rfl (by kernel_rfl) (by decide +kernel) (by decide +kernel) (fun _ _ _ h => h) (Or.inl ⟨by rfl, ?_⟩) (by assumption) ?_
      rotate_left 1
      · (intro w' hSw; go_simp; try with_reducible rfl)
      try simp only [Act.put, List.setIfInBounds_toArray, List.set_cons_zero, List.set_cons_succ]
      refine wpAnyH_take (i := 22) (oi := ⟨some 87, _, _, _, _, _⟩) (v := ?_) rfl (by kernel_rfl) (by decide +kernel) (by decide +kernel) (fun _ _ _ h => h) (Or.inl ⟨by rfl, ?_⟩) (by assumption) ?_
      rotate_left 1
      · (intro w' hSw; go_simp; try with_reducible rfl)
      try simp only [Act.put, List.setIfInBounds_toArray, List.set_cons_zero, List.set_cons_succ]
      refine wpAnyH_take (i := 23) (oi := ⟨some 88, _, _, _, _, _⟩) rfl (by kernel_rfl) (by decide +kernel) (by decide +kernel) (fun _ _ _ h => h) (yieldsIf_load_mid (by rfl) _ _ rfl (by') 0 rfl (u8s (hashS l0)).toList _ (fun w' h => h.2.1) hu rfl hiX) (by assumption) ?_
      try simp only [Act.put, List.setIfInBounds_toArray, List.set_cons_zero, List.set_cons_succ, Array.toArray_toList]
      refine wpAnyH_take (i := 24) (oi := ⟨some 89, _, _, _, _, _⟩) rfl (by kernel_rfl) (by decide +kernel) (by decide +kernel) (fun _ _ _ h => h) (yieldsIf_load_mid (by rfl) _ _ rfl (bx) 0 rfl (u8s (hashS l0)).toList _ (fun w' h => h.1) hu rfl hiX) (by assumption) ?_
      try simp only [Act.put, List.setIfInBounds_toArray, List.set_cons_zero, List.set_cons_succ, Array.toArray_toList]
      refine wpAnyH_take (i := 25) (oi := ⟨some 90, _, _, _, _, _⟩) (v := ?_) rfl (by kernel_rfl) (by decide +kernel) (by decide +kernel) (fun _ _ _ h => h) (Or.inl ⟨by rfl, ?_⟩) (by assumption) ?_
      rotate_left 1
      · (intro w' hSw; go_simp; try with_reducible rfl)
      try simp only [Act.put, List.setIfInBounds_toArray, List.set_cons_zero, List.set_cons_succ]
      refine wpAnyH_take (i := 26) (oi := ⟨some 91, _, _, _, _, _⟩) (v := ?_) rfl (by kernel_rfl) (by decide +kernel) (by decide +kernel) (fun _ _ _ h => h) (Or.inl ⟨by rfl, ?_⟩) (by assumption) ?_
      rotate_left 1
      · (intro w' hSw; go_simp; try with_reducible rfl)
      try simp only [Act.put, List.setIfInBounds_toArray, List.set_cons_zero, List.set_cons_succ]
      refine wpAnyH_take (i := 27) (oi := ⟨some 92, _, _, _, _, _⟩) (v := ?_) rfl (by kernel_rfl) (by decide +kernel) (by decide +kernel) (fun _ _ _ h => h) (Or.inl ⟨by rfl, ?_⟩) (by assumption) ?_
      rotate_left 1
      · (intro w' hSw; go_simp; try with_reducible rfl)
      try simp only [Act.put, List.setIfInBounds_toArray, List.set_cons_zero, List.set_cons_succ]
      refine wpAnyH_take (i := 28) (oi := ⟨some 93, _, _, _, _, _⟩) rfl (by kernel_rfl) (by decide +kernel) (by decide +kernel) (fun _ _ _ h => h) (yieldsIf_load_mid (by rfl) _ _ rfl (bz) 0 rfl (u8s (hashS l0)).toList _ (fun w' h => h.2.2.1) hu rfl hiX) (by assumption) ?_
      try simp only [Act.put, List.setIfInBounds_toArray, List.set_cons_zero, List.set_cons_succ, Array.toArray_toList]
      refine wpAnyH_take (i := 29) (oi := ⟨some 94, _, _, _, _, _⟩) rfl (by kernel_rfl) (by decide +kernel) (by decide +kernel) (fun _ _ _ h => h) (yieldsIf_load_mid (by rfl) _ _ rfl (bx) 0 rfl (u8s (hashS l0)).toList _ (fun w' h => h.1) hu rfl hiX) (by assumption) ?_
      try simp only [Act.put, List.setIfInBounds_toArray, List.set_cons_zero, List.set_cons_succ, Array.toArray_toList]
      refine wpAnyH_take (i := 30) (oi := ⟨some 95, _, _, _, _, _⟩) (v := ?_) rfl (by kernel_rfl) (by decide +kernel) (by decide +kernel) (fun _ _ _ h => h) (Or.inl ⟨by rfl, ?_⟩) (by assumption) ?_
      rotate_left 1
      · (intro w' hSw; go_simp; try with_reducible rfl)
      try simp only [Act.put, List.setIfInBounds_toArray, List.set_cons_zero, List.set_cons_succ]
      refine wpAnyH_take (i := 31) (oi := ⟨some 96, _, _, _, _, _⟩) (v := ?_) rfl (by kernel_rfl) (by decide +kernel) (by decide +kernel) (fun _ _ _ h => h) (Or.inl ⟨by rfl, ?_⟩) (by assumption) ?_
      rotate_left 1
      · (intro w' hSw; go_simp; try with_reducible rfl)
      try simp only [Act.put, List.setIfInBounds_toArray, List.set_cons_zero, List.set_cons_succ]
      refine wpAnyH_take (i := 32) (oi := ⟨some 97, _, _, _, _, _⟩) (v := ?_) rfl (by kernel_rfl) (by decide +kernel) (by decide +kernel) (fun _ _ _ h => h) (Or.inl ⟨by rfl, ?_⟩) (by assumption) ?_
      rotate_left 1
      · (intro w' hSw; go_simp; try with_reducible rfl)
      try simp only [Act.put, List.setIfInBounds_toArray, List.set_cons_zero, List.set_cons_succ]
      refine wpAnyH_take (i := 33) (oi := ⟨some 98, _, _, _, _, _⟩) (v := ?_) rfl (by kernel_rfl) (by decide +kernel) (by decide +kernel) (fun _ _ _ h => h) (Or.inl ⟨by rfl, ?_⟩) (by assumption) ?_
      rotate_left 1
      · (intro w' hSw; go_simp; try with_reducible rfl)
      try simp only [Act.put, List.setIfInBounds_toArray, List.set_cons_zero, List.set_cons_succ]
      refine wpAnyH_take (i := 34) (oi := ⟨some 99, _, _, _, _, _⟩) (v := ?_) rfl (by kernel_rfl) (by decide +kernel) (by decide +kernel) (fun _ _ _ h => h) (Or.inl ⟨by rfl, ?_⟩) (by assumption) ?_
      rotate_left 1
      · (intro w' hSw; have hNp : 0 < n := (by omega); go_simp; try with_reducible rfl)
      try simp only [Act.put, List.setIfInBounds_toArray, List.set_cons_zero, List.set_cons_succ]
      refine wpAnyH_take (i := 35) (oi := ⟨some 100, _, _, _, _, _⟩) (v := ?_) rfl (by kernel_rfl) (by decide +kernel) (by decide +kernel) (fun _ _ _ h => h) (Or.inl ⟨by rfl, ?_⟩) (by assumption) ?_
      rotate_left 1
      · (intro w' hSw; have hcl := hSw.2.2.2.1; go_simp; try with_reducible rfl)
      try simp only [Act.put, List.setIfInBounds_toArray, List.set_cons_zero, List.set_cons_succ]
      refine wpAnyH_take (i := 36) (oi := ⟨some 101, _, _, _, _, _⟩) (v := ?_) rfl (by kernel_rfl) (by decide +kernel) (by decide +kernel) (fun _ _ _ h => h) (Or.inl ⟨by rfl, ?_⟩) (by assumption) ?_
      rotate_left 1
      · (intro w' hSw; go_simp; try with_reducible rfl)
      try simp only [Act.put, List.setIfInBounds_toArray, List.set_cons_zero, List.set_cons_succ]
      refine wpAnyH_take (i := 37) (oi := ⟨some 102, _, _, _, _, _⟩) (v := ?_) rfl (by kernel_rfl) (by decide +kernel) (by decide +kernel) (fun _ _ _ h => h) (Or.inl ⟨by rfl, ?_⟩) (by assumption) ?_
      rotate_left 1
      · (intro w' hSw; go_simp; try with_reducible rfl)
      try simp only [Act.put, List.setIfInBounds_toArray, List.set_cons_zero, List.set_cons_succ]
      refine wpAnyH_take (i := 38) (oi := ⟨some 103, _, _, _, _, _⟩) (v := ?_) rfl (by kernel_rfl) (by decide +kernel) (by decide +kernel) (fun _ _ _ h => h) (Or.inl ⟨by rfl, ?_⟩) (by assumption) ?_
      rotate_left 1
      · (intro w' hSw; go_simp; try with_reducible rfl)
      try simp only [Act.put, List.setIfInBounds_toArray, List.set_cons_zero, List.set_cons_succ]
      refine wpAnyH_take (i := 39) (oi := ⟨some 104, _, _, _, _, _⟩) (v := ?_) rfl (by kernel_rfl) (by decide +kernel) (by decide +kernel) (fun _ _ _ h => h) (Or.inl ⟨by rfl, ?_⟩) (by assumption) ?_
      rotate_left 1
      · (intro w' hSw; go_simp; try with_reducible rfl)
      try simp only [Act.put, List.setIfInBounds_toArray, List.set_cons_zero, List.set_cons_succ]
      refine wpAnyH_take (i := 40) (oi := ⟨some 105, _, _, _, _, _⟩) (v := ?_) rfl (by kernel_rfl) (by decide +kernel) (by decide +kernel) (fun _ _ _ h => h) (Or.inl ⟨by rfl, ?_⟩) (by assumption) ?_
      rotate_left 1
      · (intro w' hSw; go_simp; try with_reducible rfl)
      try simp only [Act.put, List.setIfInBounds_toArray, List.set_cons_zero, List.set_cons_succ]
      refine wpAnyH_take (i := 41) (oi := ⟨some 106, _, _, _, _, _⟩) (v := ?_) rfl (by kernel_rfl) (by decide +kernel) (by decide +kernel) (fun _ _ _ h => h) (Or.inl ⟨by rfl, ?_⟩) (by assumption) ?_
      rotate_left 1
      · (intro w' hSw; go_simp; try with_reducible rfl)
      try simp only [Act.put, List.setIfInBounds_toArray, List.set_cons_zero, List.set_cons_succ]
      refine wpAnyH_take (i := 42) (oi := ⟨some 107, _, _, _, _, _⟩) (v := ?_) rfl (by kernel_rfl) (by decide +kernel) (by decide +kernel) (fun _ _ _ h => h) (Or.inl ⟨by rfl, ?_⟩) (by assumption) ?_
      rotate_left 1
      · (intro w' hSw; go_simp; try with_reducible rfl)
      try simp only [Act.put, List.setIfInBounds_toArray, List.set_cons_zero, List.set_cons_succ]
      refine wpAnyH_take (i := 43) (oi := ⟨some 108, _, _, _, _, _⟩) (v := ?_) rfl (by kernel_rfl) (by decide +kernel) (by decide +kernel) (fun _ _ _ h => h) (Or.inl ⟨by rfl, ?_⟩) (by assumption) ?_
      rotate_left 1
      · (intro w' hSw; go_simp; try with_reducible rfl)
      try simp only [Act.put, List.setIfInBounds_toArray, List.set_cons_zero, List.set_cons_succ]
      refine wpAnyH_take (i := 44) (oi := ⟨some 109, _, _, _, _, _⟩) (v := ?_) rfl (by kernel_rfl) (by decide +kernel) (by decide +kernel) (fun _ _ _ h => h) (Or.inl ⟨by rfl, ?_⟩) (by assumption) ?_
      rotate_left 1
      · (intro w' hSw; go_simp; try with_reducible rfl)
      try simp only [Act.put, List.setIfInBounds_toArray, List.set_cons_zero, List.set_cons_succ]
      refine wpAnyH_take (i := 45) (oi := ⟨some 110, _, _, _, _, _⟩) (v := ?_) rfl (by kernel_rfl) (by decide +kernel) (by decide +kernel) (fun _ _ _ h => h) (Or.inl ⟨by rfl, ?_⟩) (by assumption) ?_
      rotate_left 1
      · (intro w' hSw; have hcl := hSw.2.2.2.2; go_simp; try with_reducible rfl)
      try simp only [Act.put, List.setIfInBounds_toArray, List.set_cons_zero, List.set_cons_succ]
      refine wpAnyH_take (i := 46) (oi := ⟨some 111, _, _, _, _, _⟩) (v := ?_) rfl (by kernel_rfl) (by decide +kernel) (by decide +kernel) (fun _ _ _ h => h) (Or.inl ⟨by rfl, ?_⟩) (by assumption) ?_
      rotate_left 1
      · (intro w' hSw; go_simp; try with_reducible rfl)
      try simp only [Act.put, List.setIfInBounds_toArray, List.set_cons_zero, List.set_cons_succ]
      refine wpAnyH_take (i := 47) (oi := ⟨some 112, _, _, _, _, _⟩) (v := ?_) rfl (by kernel_rfl) (by decide +kernel) (by decide +kernel) (fun _ _ _ h => h) (Or.inl ⟨by rfl, ?_⟩) (by assumption) ?_
      rotate_left 1
      · (intro w' hSw; go_simp; try with_reducible rfl)
      try simp only [Act.put, List.setIfInBounds_toArray, List.set_cons_zero, List.set_cons_succ]
      refine wpAnyH_take (i := 48) (oi := ⟨some 113, _, _, _, _, _⟩) (v := ?_) rfl (by kernel_rfl) (by decide +kernel) (by decide +kernel) (fun _ _ _ h => h) (Or.inl ⟨by rfl, ?_⟩) (by assumption) ?_
      rotate_left 1
      · (intro w' hSw; go_simp; try with_reducible rfl)
      try simp only [Act.put, List.setIfInBounds_toArray, List.set_cons_zero, List.set_cons_succ]
      refine wpAnyH_take (i := 49) (oi := ⟨some 6, _, _, _, _, _⟩) (v := ?_) rfl (by kernel_rfl) (by decide +kernel) (by decide +kernel) (fun _ _ _ h => h) (Or.inl ⟨by rfl, ?_⟩) (by assumption) ?_
      rotate_left 1
      · (intro w' hSw; go_simp; try with_reducible rfl)
      try simp only [Act.put, List.setIfInBounds_toArray, List.set_cons_zero, List.set_cons_succ]
      refine wpAnyH_done (by decide +kernel) ?_ _
      refine NoPanic.normal ?_
      go_wp2_with fail
      go_ret
      exact ⟨rfl, HT13.out.bel.trans (Q15.out.mono HT13.out.bel.size)⟩
set_option maxRecDepth 100000 in
theorem lifted (os : Os) (started : os.Started) (H : Type) (enc : TypeId × Value → H) :
    ReturnsInHanded {} Tryd.checked os 6 .any (fun w args => (Rows.shaAgainSpec.pre enc Tryd.prog Tryd.f6 [] false w args ∧ laidMetH Tryd.prog [("banyan/sha.roundNumbers", Rows.laid_banyan_sha_roundNumbers)] w) ∧ sizedMet enc Tryd.prog Tryd.f6 (OpenSpec.ofChange Rows.shaAgainSpec) false w args)
      (Rows.shaAgainSpec.post enc Tryd.prog Tryd.f6 false true false false) := by
  refine returnsInHanded_of_change_and (C := Tryd.checked) (X := fun w _ => laidMetH Tryd.prog [("banyan/sha.roundNumbers", Rows.laid_banyan_sha_roundNumbers)] w) (fun _ _ _ hh h => h.of_heap hh) own started (by kernel_rfl) Tryd.func6
    (ChangeSpec.witness_shaped (enc := enc) (C := Tryd.checked) (os := os) (X := fun w _ => laidMetH Tryd.prog [("banyan/sha.roundNumbers", Rows.laid_banyan_sha_roundNumbers)] w) false (World.doorLaid Tryd.prog 400 os) #[.slice none 0 0, .int .u8 0, .int .u16 0] 8 rfl (World.shaped_of_RefB (by kernel_rfl) (by kernel_rfl)) (by kernel_rfl) (by kernel_rfl) (by kernel_rfl) (door_met os _)) ?_
  intro W base args ds gs before hval0 hW _ hsz0 hL _
  have hval : ∀ (j : Nat) t v, Tryd.f6.params[j]? = some t → args[j]? = some v → Value.okWide Tryd.prog W .any base t v := hval0
  have hsz : (DataW.weightsEach Tryd.prog (Tryd.f6.params.toList ++ Rows.shaAgainSpec.plain.varTypes Tryd.prog) (ds ++ gs)).all (· ≤ reachBytes) = true := hsz0
  clear hsz0
  have hW' := hW
  obtain ⟨p, q, hA0, hV, rfl, hfz, hnd⟩ := hW
  have hA : DataW.TrodAll enc Tryd.prog W 0 (fun _ => true) true Tryd.f6.params.toList args.toList ds p := hA0
  rw [Tryd.params6] at hA hval hsz
  obtain ⟨v0, vs0, d0, ds0, p0, q0, hargs, rfl, rfl, h0, r0⟩ := trodAll_cons hA
  obtain ⟨v1, vs1, d1, ds1, p1, q1, rfl, rfl, rfl, h1, r1⟩ := trodAll_cons r0
  obtain ⟨v2, vs2, d2, ds2, p2, q2, rfl, rfl, rfl, h2, r2⟩ := trodAll_cons r1
  obtain ⟨rfl, rfl, rfl⟩ := trodAll_nil r2
  obtain rfl : args = #[v0, v1, v2] := by cases args; simp_all
  obtain ⟨rfl, rfl⟩ := trodVars_none hV
  have k0 := h0
  have lt0 : ∀ x ∈ p0, x.block < W.heap.size := by obtain ⟨m, hm⟩ := k0; exact DataW.trod_lt m _ _ _ hm
  obtain ⟨a0, len0, cap0, l0, rfl, e0, b0, m0, n0⟩ := open_bs (hval 0 22 v0 rfl rfl) h0 (fun elems spare hd => sized_slice hsz (j := 0) (t := 22) (e := 5) rfl (by rw [hd]; rfl) Tryd.underlying22)
  obtain ⟨a1, rfl, rfl, rfl, w1⟩ := open_int Tryd.underlying5 (hval 1 5 v1 rfl rfl) h1
  obtain ⟨h10, h11⟩ : 0 ≤ a1 ∧ a1 ≤ 255 := by
    have := w1
    simp [Lit.wf, IntKind.min, IntKind.max, IntKind.signed, IntKind.bits] at this
    omega
  obtain ⟨a2, rfl, rfl, rfl, w2⟩ := open_int Tryd.underlying43 (hval 2 43 v2 rfl rfl) h2
  obtain ⟨h20, h21⟩ : 0 ≤ a2 ∧ a2 ≤ 65535 := by
    have := w2
    simp [Lit.wf, IntKind.min, IntKind.max, IntKind.signed, IntKind.bits] at this
    omega
  have hK := of_laid hL
  clear hA0 hval0
  refine (walk W a0 len0 cap0 l0 e0 b0 m0 n0 a1 h10 h11 a2 h20 h21 hK).mono fun e W' ⟨he, bel⟩ => ?_
  subst he
  exact ⟨_, rfl, _, _, _, [], _, [], hW', trodAll_mk1 (shut_bool Tryd.underlying4 _), (trodAll_cons_mk (Below.trod laidOut (by kernel_rfl) (of_decide_eq_true (by kernel_rfl)) k0 bel lt0) (trodAll_cons_mk (shut_int Tryd.underlying5 w1) (trodAll_cons_mk (shut_int Tryd.underlying43 w2) trodAll_mk0))), rfl, bel.frame _, fun h => by cases h⟩

theorem over : Rows.ShaAgainSaid :=
  OpenClaim.holds_of_wide 6 Tryd.f6 rfl rfl rfl rfl rfl rfl rfl ⟨rfl, rfl, rfl, rfl, rfl⟩ rfl rfl rfl rfl rfl (by kernel_rfl) Tryd.func6 (by kernel_rfl)
    (of_decide_eq_true (by kernel_rfl)) (by unfold Func.isWrapper; first | (rw [if_pos (by decide +kernel)]; kernel_rfl) | (rw [if_neg (by decide +kernel)]; exact ⟨rfl, rfl⟩))
    (fun os started H enc _ => lifted os started H enc)

/-- The statement. -/
theorem proved : Rows.ShaAgainCardSaid :=
  Claim7.holds_tied_plain_at .later [] [.data] true (true, "698d5c1e6826afa017c479af1af08b78f97d30d96166054830822b4b50163390") false
    over (fun _ h => by cases h) (by kernel_rfl) (fun _ h => by cases h) shaAgain_row_tie rfl ⟨rfl, rfl⟩ (by kernel_rfl) rfl
    (fun f fn hf hfn => by
      obtain rfl : f = 6 := Option.some.inj ((show Tryd.prog.funcNamed "banyan/banyanlaw02.ShaAgain" = some 6 by kernel_rfl).symm.trans hf) |>.symm
      obtain rfl : fn = Tryd.f6 := (Option.some.inj (Tryd.func6.symm.trans hfn)).symm
      exact ⟨by kernel_rfl, fun j t ht => by
        rw [Tryd.params6] at ht
        have hm : t ∈ [22, 5, 43] := by simpa using Array.mem_of_getElem? ht
        have hall : ([22, 5, 43].all fun u => !Tryd.prog.wantsStandIn u) = true := by kernel_rfl
        exact (show Tryd.prog.wantsStandIn t = false by simpa using List.all_eq_true.1 hall t hm)⟩)
    (by kernel_rfl)
#print axioms proved
end Go.Proofs.YtinkjoghdajhkaaDoor.shaAgain
