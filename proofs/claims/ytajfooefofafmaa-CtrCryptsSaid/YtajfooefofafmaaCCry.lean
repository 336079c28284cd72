/-
  ctr's Crypt.
-/
import Derived.Test.YtajfooefofafmaaCStr
namespace Go.Proofs.Ytajfooefofafmaa
open Go.RowKit

/-- Of a slice that reads as bytes: a byte's cell. -/
theorem BS.cellY {w : World} {a : Option Addr} {n cap : Nat} {l : List (BitVec 8)} (h : BS w (.slice a n cap) (l.map yv)) (hl : l.length = n) {i : Nat} (hi : i < n) :
    ∃ b off, a = some ⟨b, off, none⟩ ∧ b < w.heap.size ∧ w.cell? ⟨b, off + i, none⟩ = some (.int .u8 (yv (l.getD i 0))) := by
  obtain ⟨a', cap', hv, hy, hn, h⟩ := h
  injection hv with e1 e2 e3
  rcases h with h | ⟨b, off, ha, hc⟩
  · have : l = [] := List.map_eq_nil_iff.1 h
    subst this
    simp at hl; omega
  · have hc := hc i (by simpa [hl] using hi)
    refine ⟨b, off, e1.trans ha, block_lt_of_cell hc, ?_⟩
    rw [hc]
    have : i < l.length := by omega
    simp [List.getD, this]
theorem setF_id_at (f : Nat → BitVec 8) (s : List (BitVec 8)) (k i : Nat) (hi : i < s.length) : (setF id f k s)[i]? = some (if i < k then f i else s.getD i 0) := by
  induction k with
  | zero => simp [setF, List.getD, hi]
  | succ k ih =>
    have hlen := setF_length id f k s
    show ((setF id f k s).set k (f k))[i]? = _
    by_cases h : k = i
    · subst h
      have h1 : k < (setF id f k s).length := by omega
      rw [List.getElem?_set_self h1, if_pos (by omega)]
    · rw [List.getElem?_set_ne h, ih]
      by_cases h2 : i < k
      · rw [if_pos h2, if_pos (by omega)]
      · rw [if_neg h2, if_neg (by omega)]
theorem setF_xor (s l : List (BitVec 8)) (n : Nat) (hs : s.length = n) (hl : l.length = n) : setF id (fun i => s.getD i 0 ^^^ l.getD i 0) n s = sumB l s := by
  apply List.ext_getElem?
  intro i
  by_cases hi : i < n
  · rw [setF_id_at _ _ _ _ (by omega), if_pos hi]
    have i1 : i < s.length := by omega
    have i2 : i < l.length := by omega
    simp [sumB, List.getElem?_zipWith, List.getD, i1, i2, BitVec.xor_comm]
  · rw [List.getElem?_eq_none (by rw [setF_length]; omega), List.getElem?_eq_none (by rw [sumB_length l s n hl hs]; omega)]

set_option maxRecDepth 100000 in
set_option maxHeartbeats 1600000 in
theorem crypt_bad (k n : List (BitVec 8)) (a : Option Addr) (len cap : Nat) (w : World) (hbad : 65536 < len) (hle : len ≤ 140737488351232) (hk : k.length = 32) (hn : n.length = 12) :
    Calls Try.prog 18 #[.agg (yvs k), .agg (yvs n), .slice a len cap] w fun e w' => e = .returned (.tuple #[.slice none 0 0, .int .i64 2]) ∧ Below w.heap.size w w' := by
  have HC := Lib.hid (fun w => stream_bad k n 0 (len : Int) w (by omega) (by omega) (by omega))
  have SK := Lib.hid (size_key k hk)
  have SN := Lib.hid (size_nonce n hn)
  clear hbad hle hk hn
  go_enter Try.func18, Try.ntmps18
  go_wp2_with (first
    | (with_reducible refine wpList_load_row (o := ⟨some 13, _, _, _, _, _⟩) rfl 28 _ rfl w.heap.size rfl 28 (yvs k) (0, 0) _ (ytwo w _ _).1 Try.underlying28 rfl SK.out ?_)
    | (with_reducible refine wpList_load_row (o := ⟨some 14, _, _, _, _, _⟩) rfl 30 _ rfl (w.heap.size + 1) rfl 30 (yvs n) (0, 0) _ (ytwo w _ _).2.1 Try.underlying30 rfl SN.out ?_))
  obtain ⟨_, _, hsz, hbel⟩ := ytwo w (.cells (yvs k) 28) (.cells (yvs n) 30)
  refine (HC.out _).mono ?_
  rintro e w1 ⟨rfl, hb1⟩
  rw [hsz] at hb1
  have HB := Lib.hid (hbel.trans (hb1.mono (by omega)))
  clear hsz hbel hb1
  go_wp2_with fail
  go_ret2
  exact ⟨rfl, HB.out⟩

set_option maxRecDepth 100000 in
set_option maxHeartbeats 1600000 in
theorem crypt_ok (k n l : List (BitVec 8)) (a : Option Addr) (len cap : Nat) (w : World) (hB : BS w (.slice a len cap) (l.map yv)) (hl : l.length = len) (hle : len ≤ 65536) (hk : k.length = 32) (hn : n.length = 12) :
    Calls Try.prog 18 #[.agg (yvs k), .agg (yvs n), .slice a len cap] w fun e w' => e = .returned (.tuple #[.slice (some ⟨w.heap.size + 1 + 1 + 1 + 1, 0, none⟩) len len, .int .i64 0]) ∧ ArrY w' (w.heap.size + 1 + 1 + 1 + 1) 5 (sumB l (strL (keysL k) n 0 len)) ∧ Below w.heap.size w w' := by
  obtain ⟨S, hS⟩ : ∃ y, strL (keysL k) n 0 len = y := ⟨_, rfl⟩
  have hsl : S.length = len := by rw [← hS, strL_length]
  have HC := Lib.hid (fun w => by have h := stream_ok k n 0 len w hk hn (by omega) hle; rw [hS] at h; exact h)
  have HX := Lib.hid (setF_xor S l len hsl hl)
  have HSS := Lib.hid hS
  have HSL := Lib.hid hsl
  have HB0 := Lib.hid hB
  have HL := Lib.hid hl
  have SK := Lib.hid (size_key k hk)
  have SN := Lib.hid (size_nonce n hn)
  have lI : (len : Int) ≤ 65536 := by omega
  clear hS hsl hB hl hle hk hn
  go_enter Try.func18, Try.ntmps18
  go_wp2_with (first
    | (with_reducible refine wpList_load_row (o := ⟨some 13, _, _, _, _, _⟩) rfl 28 _ rfl w.heap.size rfl 28 (yvs k) (0, 0) _ (ytwo w _ _).1 Try.underlying28 rfl SK.out ?_)
    | (with_reducible refine wpList_load_row (o := ⟨some 14, _, _, _, _, _⟩) rfl 30 _ rfl (w.heap.size + 1) rfl 30 (yvs n) (0, 0) _ (ytwo w _ _).2.1 Try.underlying30 rfl SN.out ?_))
  obtain ⟨_, _, hsz, hbel⟩ := ytwo w (.cells (yvs k) 28) (.cells (yvs n) 30)
  have hc := HC.out ((w.alloc (.cells (yvs k) 28)).alloc (.cells (yvs n) 30))
  rw [show ((w.alloc (.cells (yvs k) 28)).alloc (.cells (yvs n) 30)).heap.size + 1 + 1 = w.heap.size + 1 + 1 + 1 + 1 by rw [hsz]] at hc
  refine hc.mono ?_
  clear hc HC
  rintro e w1 ⟨rfl, hA1, hb1⟩
  rw [hsz] at hb1
  have HA1 := Lib.hid hA1
  have HB1 := Lib.hid (hbel.trans (hb1.mono (by omega)))
  clear hsz hbel hb1 hA1
  generalize hP0 : w.heap.size + 1 + 1 + 1 + 1 = P at *
  have HP0 := Lib.hid hP0
  clear hP0
  go_wp2_with fail
  go_loopw [25] (fun v25 wr => ∃ i : Nat, i ≤ len ∧ v25 = .int .i64 (i : Nat) ∧ ArrY wr P 5 (setF id (fun i => S.getD i 0 ^^^ l.getD i 0) i S) ∧ Below w.heap.size w wr) (fun v _ => len - (intOf v).toNat)
  case atStart => exact ⟨0, by omega, rfl, HA1.out, HB1.out⟩
  case round =>
    obtain ⟨i, hi, rfl, hA, hb⟩ := hrel
    by_cases hlt : i < len
    · obtain ⟨b, off, rfl, hblt, hcb⟩ := HB0.out.cellY HL.out hlt
      have hcx : wr.cell? ⟨b, off + i, none⟩ = some (.int .u8 (yv (l.getD i 0))) := by rw [hb.cell (p := ⟨b, off + i, none⟩) hblt]; exact hcb
      have ci := hA.cell (k := i) (by rw [setF_length, HSL.out]; exact hlt)
      rw [setF_id] at ci
      have fi := hA.free i
      have hx := yv_xor (S.getD i 0) (l.getD i 0)
      have HST := Lib.hid (show setF id (fun i => S.getD i 0 ^^^ l.getD i 0) (i + 1) S = (setF id (fun i => S.getD i 0 ^^^ l.getD i 0) i S).set i (S.getD i 0 ^^^ l.getD i 0) from rfl)
      generalize hM2 : setF id (fun i => S.getD i 0 ^^^ l.getD i 0) (i + 1) S = M2 at *
      have HM2 := Lib.hid hM2
      clear hM2
      generalize setF id (fun i => S.getD i 0 ^^^ l.getD i 0) i S = M at *
      generalize S.getD i 0 = x at *
      generalize l.getD i 0 = y at *
      have HA := Lib.hid hA
      have HB2 := Lib.hid hb
      have HLT := Lib.hid hlt
      have iI : (i : Int) < (len : Int) := by omega
      have i0 : (0 : Int) ≤ (i : Int) := by omega
      clear hA hb hi hlt hcb hblt
      go_wp2_with fail
      go_roundw
      case rel => exact ⟨i + 1, by have := HLT.out; omega, by go_num, by rw [HM2.out, HST.out]; exact HA.out.set i _, HB2.out.setCell (p := ⟨P, i, none⟩) (show w.heap.size ≤ P by have := HP0.out; omega) _⟩
      case measure => simp [intOf]; omega
    · obtain rfl : i = len := by omega
      rw [HX.out] at hA
      have HA := Lib.hid hA
      have HB2 := Lib.hid hb
      clear hA hb hi hlt
      go_wp2_with fail
      go_ret2
      exact ⟨by rw [HP0.out]; rfl, by rw [HP0.out, HSS.out]; exact HA.out, HB2.out⟩
end Go.Proofs.Ytajfooefofafmaa
