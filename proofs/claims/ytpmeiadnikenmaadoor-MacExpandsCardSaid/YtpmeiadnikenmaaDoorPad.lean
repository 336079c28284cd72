/-
  What stands behind the bytes, up to a block's end.
-/
import Derived.Test.YtpmeiadnikenmaaDoorHash
import Derived.Laws.MakeOwn
namespace Go.Proofs.YtpmeiadnikenmaaDoor
open Go.RowKit

/-- How many bytes 0 stand between the first one and the count. -/
def padZ (n : Nat) : Nat := (119 - n % 64) % 64
def pad (n : Nat) : List Int := 128 :: (List.replicate (padZ n) 0 ++ putI (8 * (n : Int)) 8)
theorem pad_length (n : Nat) : (pad n).length = padZ n + 9 := by simp [pad, putI_length]
theorem pad_whole (n : Nat) : (n + (pad n).length) % 64 = 0 := by rw [pad_length]; unfold padZ; omega
theorem pad_byt (n : Nat) : Byt (pad n) := by
  intro z hz
  simp only [pad, List.mem_cons, List.mem_append, List.mem_replicate] at hz
  rcases hz with rfl | ⟨_, rfl⟩ | h
  · omega
  · omega
  · exact putI_byt _ _ z h
/-- A slice that came in has no more elements than room, and lies elsewhere than block b. -/
def Room (v : Value) : Prop := ∀ a n c, v = .slice a n c → n ≤ c ∧ c ≤ 9223372036854775807
def Off (b : Nat) (v : Value) : Prop := ∀ a n c, v = .slice (some a) n c → 0 < n → a.block ≠ b
theorem room_of_own {w : World} {base n : Nat} {e : TypeId} {v : Value} {xs : List Value} (h : w.ownsRow base e 1 v n xs) : Room v := by
  intro a m c hv
  rcases h.2 with ⟨rfl, _⟩ | ⟨g, cap, cur, rfl, _, _, hn, hc, _⟩
  · injection hv with h1 h2 h3; subst h2; subst h3; omega
  · injection hv with h1 h2 h3; subst h2; subst h3
    unfold maxLen at hc
    omega
theorem off_of_own {w : World} {base n b : Nat} {e : TypeId} {v : Value} {xs : List Value} (h : w.ownsRow base e 1 v n xs) (hb : b < base) : Off b v := by
  intro a m c hv _
  rcases h.2 with ⟨rfl, _⟩ | ⟨g, cap, cur, rfl, hg, _⟩
  · cases hv
  · injection hv with h1 h2 h3
    injection h1 with h1
    subst h1
    show g ≠ b
    omega
theorem BS.off_new {w : World} {v : Value} {l : List Int} {b : Nat} (h : BS w v l) (hb : w.heap.size ≤ b) : Off b v := by
  obtain ⟨a, cap, rfl, hy, hn, hc⟩ := h
  intro a' m c hv h0
  injection hv with h1 h2 h3
  rcases hc with rfl | ⟨bb, off, rfl, hc⟩
  · simp at h2; omega
  · injection h1 with h1
    subst h1
    have := block_lt_of_cell (hc 0 (by omega))
    show bb ≠ b
    simp at this
    omega
/-- What a call that hands bytes of its own back leaves. -/
def Gives (l : List Int) (w : World) (e : Ending) (w' : World) : Prop := ∃ v, e = .returned v ∧ BS w' v l ∧ Room v ∧ (∀ b, b < w.heap.size → Off b v) ∧ Below w.heap.size w w'

theorem own_of_arr {w : World} {g c m : Nat} {l : List Int} (h : ArrB w g 5 l) (hl : l.length = c) (hm : m ≤ c) (hc : c ≤ maxLen) : w.ownsRow g 5 1 (.slice (some ⟨g, 0, none⟩) m c) m ((l.take m).map (Value.int .u8)) := by
  refine ⟨by simp [List.length_take]; omega, .inr ⟨g, c, u8s l, rfl, Nat.le_refl _, h, hm, hc, by rw [u8s_size, hl, Nat.mul_one], ?_⟩⟩
  simp [u8s, List.map_take]
theorem made_zero (f : Nat) : madeCells (Value.int .u8 0).cells f = u8s (List.replicate f 0) := by
  have e : madeCells (Value.int .u8 0).cells f = (List.replicate f (Value.int .u8 0)).toArray := by rw [← toList_madeCells_one]; simp [Value.cells]
  rw [e]; simp [u8s]
theorem make_u8 (m f : Nat) (hmf : m ≤ f) (hf : f ≤ 1000000) (w : World) : (Instr.makeSlice 22 (.int .i64 (m : Int)) (.int .i64 (f : Int))).run Tryd.prog w = .ok (.slice (some ⟨w.heap.size, 0, none⟩) m f) (w.alloc (.cells (u8s (List.replicate f 0)) 5)) := by
  obtain ⟨i0, hi, hz0, hz1, hz2⟩ := info_parts info_u8
  have h := run_make (P := Tryd.prog) w 22 5 i0 _ Tryd.underlying22 hi hz0 .i64 .i64 (m : Int) (f : Int) (by omega) (by omega) (by rw [hz2]; omega) (by omega)
  rw [hz1, Nat.mul_one, Int.toNat_natCast, Int.toNat_natCast, made_zero] at h
  exact h

theorem pad_first (w : World) (f : Nat) (h : 1 ≤ f) : ArrB (w.alloc (.cells ((u8s (List.replicate f 0)).setIfInBounds 0 (.int .u8 128)) 5)) w.heap.size 5 (128 :: List.replicate (f - 1) 0) := by
  unfold ArrB
  rw [heap_alloc_new]
  obtain ⟨k, rfl⟩ : ∃ k, f = k + 1 := ⟨f - 1, by omega⟩
  simp [u8s, List.replicate_succ]
theorem pad_take (m f : Nat) (hm : 1 ≤ m) (h : m ≤ f) : (128 :: List.replicate (f - 1) (0 : Int)).take m = 128 :: List.replicate (m - 1) 0 := by
  obtain ⟨k, rfl⟩ : ∃ k, m = k + 1 := ⟨m - 1, by omega⟩
  simp [List.take_replicate]; omega
theorem put8 (x : Int) (w : World) (h0 : 0 ≤ x) (h1 : x < 18446744073709551616) :
    Calls Tryd.prog 47 #[.int .u64 x, .int .i64 8] w fun e w' => e = .returned (.tuple #[.slice (some ⟨w.heap.size, 0, none⟩) 8 8, .int .i64 0]) ∧
       w'.ownsRow w.heap.size 5 1 (.slice (some ⟨w.heap.size, 0, none⟩) 8 8) 8 ((putI x 8).map (.int .u8)) ∧ Below w.heap.size w w' :=
  put_ok x 8 w (by omega) h0 (by rw [show (2 : Int) ^ (8 * 8) = 18446744073709551616 by decide]; exact h1)

set_option maxRecDepth 100000 in
set_option maxHeartbeats 1600000 in
theorem padding_any (n : Nat) (w : World) (hn : n ≤ 100000000) :
    Calls Tryd.prog 35 #[.int .i64 (n : Int)] w (Gives (pad n) w) := by
  obtain ⟨r, hr, hr2⟩ : ∃ r : Nat, (n : Int) % 64 = (r : Int) ∧ n % 64 = r := ⟨n % 64, by omega, rfl⟩
  have r0 : (0 : Int) ≤ (r : Int) := by omega
  have r1 : (r : Int) ≤ 63 := by omega
  have n0 : (0 : Int) ≤ (n : Int) := by omega
  have n1 : (n : Int) ≤ 100000000 := by omega
  have HR := Lib.hid hr2
  have HP := Lib.hid (fun w => put8 ((n : Int) * 8) w (by omega) (by omega))
  clear hr2 hn
  by_cases hc : (64 : Int) - (r : Int) ≤ 8
  · obtain ⟨f, m, hf, hm, hfe, hme⟩ : ∃ f m : Nat, (64 : Int) - (r : Int) + 64 = (f : Int) ∧ (f : Int) - 8 = (m : Int) ∧ f = 128 - r ∧ m = padZ n + 1 := ⟨128 - r, 120 - r, by omega, by omega, rfl, by unfold padZ; have := HR.out; omega⟩
    have f1 : (f : Int) ≤ 72 := by omega
    have m1 : (1 : Int) ≤ (m : Int) := by omega
    have HF := Lib.hid hfe
    have HM := Lib.hid hme
    have hmk := make_u8 m f (by omega) (by omega)
    have hz0 : (u8s (List.replicate f 0))[0]? = some (.int .u8 0) := by
      rw [u8s_at _ 0 (by rw [List.length_replicate]; omega)]
      simp [show 0 < f by omega]
    clear hfe hme
    go_enter Tryd.func35, Tryd.ntmps35
    go_wp2_with fail
    refine (HP.out _).mono ?_
    rintro e w2 ⟨rfl, ho, hb2⟩
    have hA := ArrB.below (pad_first w f (by omega)) hb2 (by simp)
    have hsz : w.heap.size + 1 ≤ w2.heap.size := by simpa using hb2.size
    have hbel := ((Below.refl w.heap.size w).alloc (Nat.le_refl _) (.cells ((u8s (List.replicate f 0)).setIfInBounds 0 (.int .u8 128)) 5)).trans (hb2.mono (by simp))
    have hown := own_of_arr (m := m) hA (by simp; omega) (by omega : m ≤ f) (by unfold maxLen; omega)
    rw [pad_take m f (by omega) (by omega)] at hown
    have hBS := BS.of_owns ho (putI_length _ _) (putI_byt _ _)
    rw [World.size_alloc] at hBS ho
    have HO := Lib.hid hown
    have HC := Lib.hid hBS
    have HB := Lib.hid hbel
    have HSZ := Lib.hid hsz
    clear hA hown hBS hbel hsz ho hb2
    go_wp2_with (first
      | (at_builtin; with_reducible refine wpList_append_BS (o := ⟨some 29, _, _, _, _, _⟩) rfl _ _ rfl w.heap.size (.slice (some ⟨w.heap.size, 0, none⟩) m f) m (List.map (Value.int .u8) (128 :: List.replicate (m - 1) 0)) rfl HO.out (.slice (some ⟨w.heap.size + 1, 0, none⟩) 8 8) (putI ((n : Int) * 8) 8) rfl HC.out (by rw [putI_length]; omega) (by have := HSZ.out; omega) ?_; intro v' w' ho' hg'))
    go_ret
    refine ⟨v', rfl, ?_, room_of_own ho', fun b hb => off_of_own ho' hb, HB.out.grown hg' (by have := HSZ.out; omega) (fun k hk => (HO.out.lt k hk).1)⟩
    have e : 128 :: List.replicate (m - 1) 0 ++ putI ((n : Int) * 8) 8 = pad n := by
      unfold pad
      rw [show m - 1 = padZ n by have := HM.out; omega, Int.mul_comm]; rfl
    rw [← List.map_append, e] at ho'
    refine BS.of_own ho' ?_ (pad_byt n)
    rw [← e]; simp; omega
  · obtain ⟨f, m, hf, hm, hfe, hme⟩ : ∃ f m : Nat, (64 : Int) - (r : Int) = (f : Int) ∧ (f : Int) - 8 = (m : Int) ∧ f = 64 - r ∧ m = padZ n + 1 := ⟨64 - r, 56 - r, by omega, by omega, rfl, by unfold padZ; have := HR.out; omega⟩
    have f1 : (f : Int) ≤ 72 := by omega
    have f8 : (8 : Int) < (f : Int) := by omega
    have m1 : (1 : Int) ≤ (m : Int) := by omega
    have HF := Lib.hid hfe
    have HM := Lib.hid hme
    have hmk := make_u8 m f (by omega) (by omega)
    have hz0 : (u8s (List.replicate f 0))[0]? = some (.int .u8 0) := by
      rw [u8s_at _ 0 (by rw [List.length_replicate]; omega)]
      simp [show 0 < f by omega]
    clear hfe hme
    go_enter Tryd.func35, Tryd.ntmps35
    go_wp2_with fail
    refine (HP.out _).mono ?_
    rintro e w2 ⟨rfl, ho, hb2⟩
    have hA := ArrB.below (pad_first w f (by omega)) hb2 (by simp)
    have hsz : w.heap.size + 1 ≤ w2.heap.size := by simpa using hb2.size
    have hbel := ((Below.refl w.heap.size w).alloc (Nat.le_refl _) (.cells ((u8s (List.replicate f 0)).setIfInBounds 0 (.int .u8 128)) 5)).trans (hb2.mono (by simp))
    have hown := own_of_arr (m := m) hA (by simp; omega) (by omega : m ≤ f) (by unfold maxLen; omega)
    rw [pad_take m f (by omega) (by omega)] at hown
    have hBS := BS.of_owns ho (putI_length _ _) (putI_byt _ _)
    rw [World.size_alloc] at hBS ho
    have HO := Lib.hid hown
    have HC := Lib.hid hBS
    have HB := Lib.hid hbel
    have HSZ := Lib.hid hsz
    clear hA hown hBS hbel hsz ho hb2
    go_wp2_with (first
      | (at_builtin; with_reducible refine wpList_append_BS (o := ⟨some 29, _, _, _, _, _⟩) rfl _ _ rfl w.heap.size (.slice (some ⟨w.heap.size, 0, none⟩) m f) m (List.map (Value.int .u8) (128 :: List.replicate (m - 1) 0)) rfl HO.out (.slice (some ⟨w.heap.size + 1, 0, none⟩) 8 8) (putI ((n : Int) * 8) 8) rfl HC.out (by rw [putI_length]; omega) (by have := HSZ.out; omega) ?_; intro v' w' ho' hg'))
    go_ret
    refine ⟨v', rfl, ?_, room_of_own ho', fun b hb => off_of_own ho' hb, HB.out.grown hg' (by have := HSZ.out; omega) (fun k hk => (HO.out.lt k hk).1)⟩
    have e : 128 :: List.replicate (m - 1) 0 ++ putI ((n : Int) * 8) 8 = pad n := by
      unfold pad
      rw [show m - 1 = padZ n by have := HM.out; omega, Int.mul_comm]; rfl
    rw [← List.map_append, e] at ho'
    refine BS.of_own ho' ?_ (pad_byt n)
    rw [← e]; simp; omega
end Go.Proofs.YtpmeiadnikenmaaDoor
