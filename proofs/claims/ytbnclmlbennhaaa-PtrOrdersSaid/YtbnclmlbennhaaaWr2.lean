/-
  codec's Writer: Num, Str, Hash, Pad, Bytes.
-/
import Derived.Test.YtbnclmlbennhaaaWr
import Derived.Test.YtbnclmlbennhaaaQStr
namespace Go.Proofs.Ytbnclmlbennhaaa
set_option maxRecDepth 4000
open Go.RowKit

/-- What Num lays, and answers. -/
def numW (x n : Int) : List Int × Int := if n < 0 ∨ 8 < n ∨ 2 ^ (8 * n.toNat) ≤ x then ([], 2) else (putI x n.toNat, 0)
set_option maxRecDepth 100000 in
set_option maxHeartbeats 1600000 in
theorem wnum_any (P B : Nat) (v : Value) (l : List Int) (x n : Int) (w : World) (h : WO w P B v l) (h0 : 0 ≤ x) (h63 : l.length ≤ 140737488300000) (hB : B ≤ w.heap.size) :
    Calls Try.prog 33 #[.pointer (some ⟨P, 0, none⟩), .int .u64 x, .int .i64 n] w fun e w' => e = .returned (.int .i64 (numW x n).2) ∧ WStep w w' P B v (l ++ (numW x n).1) := by
  by_cases hc : n < 0 ∨ 8 < n ∨ 2 ^ (8 * n.toNat) ≤ x
  · rw [show numW x n = ([], 2) by unfold numW; rw [if_pos hc]]
    have HP := Lib.hid (put_bad x n w hc)
    have HS := Lib.hid (show WStep w w P B v (l ++ []) by rw [List.append_nil]; exact WStep.refl h)
    clear h hc h0 h63 hB
    go_enter Try.func33, Try.ntmps33
    go_wp2_with fail
    refine HP.out.mono ?_
    rintro e w1 ⟨rfl, rfl⟩
    go_wp2_with fail
    go_ret
    exact ⟨rfl, HS.out⟩
  · rw [show numW x n = (putI x n.toNat, 0) by unfold numW; rw [if_neg hc]]
    obtain ⟨m, rfl⟩ : ∃ m : Nat, n = (m : Int) := ⟨n.toNat, by omega⟩
    have hm : m ≤ 8 := by omega
    have HP := Lib.hid (put_ok x m w hm h0 (by simp at hc; omega))
    have HM := Lib.hid hm
    have H := Lib.hid h
    have HL := Lib.hid h63
    have HBB := Lib.hid hB
    dsimp only
    rw [Int.toNat_natCast]
    clear h hc h0 h63 hB hm
    go_enter Try.func33, Try.ntmps33
    go_wp2_with fail
    refine HP.out.mono ?_
    rintro e w1 ⟨rfl, ho, hb⟩
    have HR := Lib.hid (wraw_any P B v _ l _ w1 (H.out.below hb) (BS.of_own ho (putI_length x m) (putI_byt x m)) (by rw [putI_length]; have := HM.out; have := HL.out; omega) (Nat.le_trans HBB.out hb.size))
    have HB := Lib.hid hb
    clear ho hb HP
    go_wp2_with fail
    refine HR.out.mono ?_
    rintro e w2 ⟨rfl, hs⟩
    have HS := Lib.hid (hs.of_below HB.out)
    clear hs HR
    go_wp2_with fail
    go_ret
    exact ⟨rfl, HS.out⟩
/-- What Str lays, and answers. -/
def strW (s : ByteArray) : List Int × Int := if 255 < s.size then ([], 2) else ((s.size : Int) :: btxt s, 0)
theorem putI_one (m : Nat) (h : m ≤ 255) : putI (m : Int) 1 = [(m : Int)] := by
  simp [putI]
  omega
theorem numW_one (m : Nat) (h : m ≤ 255) : numW (m : Int) 1 = ([(m : Int)], 0) := by
  unfold numW
  rw [if_neg (by simp; omega)]
  rw [show (1 : Int).toNat = 1 from rfl, putI_one m h]
theorem bs_i8s {w : World} {g t : Nat} {q : List Int} (h : w.heap[g]? = some (.cells (i8s q) t (0, 0))) (hb : Byt q) (n : Nat) (hn : q.length = n) : BS w (.slice (some ⟨g, 0, none⟩) n n) q := by
  refine ⟨some ⟨g, 0, none⟩, n, by rw [hn], hb, nofun, .inr ⟨g, 0, rfl, fun i hi => ?_⟩⟩
  rw [cell_of_row _ _ _ _ _ _ h]
  simp [i8s, hi]
set_option maxRecDepth 100000 in
set_option maxHeartbeats 1600000 in
theorem whash_any (P B : Nat) (v : Value) (l q : List Int) (w : World) (h : WO w P B v l) (hq : q.length = 32) (hy : Byt q) (h63 : l.length ≤ 140737488200000) (hB : B ≤ w.heap.size) :
    Calls Try.prog 34 #[.pointer (some ⟨P, 0, none⟩), .agg (i8s q)] w fun e w' => e = .returned (.int .i64 0) ∧ WStep w w' P B v (l ++ q) := by
  have hb := (Below.refl w.heap.size w).alloc (Nat.le_refl _) (.cells (i8s q) 25)
  have hA := heap_alloc_new w (.cells (i8s q) 25)
  have HR := Lib.hid (wraw_any P B v _ l q _ (h.below hb) (bs_i8s hA hy 32 hq) (by omega) (by have := hb.size; omega))
  have HB := Lib.hid hb
  have hsl := slice_hash7 w.heap.size
  clear h hq hy h63 hB hb hA
  generalize i8s q = Z at *
  go_enter Try.func34, Try.ntmps34
  go_wp2_with fail
  refine HR.out.mono ?_
  rintro e w2 ⟨rfl, hs⟩
  have HS := Lib.hid (hs.of_below HB.out)
  clear hs HR
  go_wp2_with fail
  go_ret
  exact ⟨rfl, HS.out⟩
/-- What Pad lays, and answers. -/
def padW (n : Nat) (sz : Int) : List Int × Int := if 65536 < sz ∨ sz < n then ([], 2) else (List.replicate (sz.toNat - n) 0, 0)
theorem byt_zeros (n : Nat) : Byt (List.replicate n 0) := by
  intro z hz
  obtain ⟨_, rfl⟩ := List.mem_replicate.1 hz
  omega
set_option maxRecDepth 100000 in
set_option maxHeartbeats 1600000 in
theorem wbytes_any (P B : Nat) (v : Value) (l : List Int) (w : World) (h : WO w P B v l) (h63 : l.length ≤ 140737488351232) :
    Calls Try.prog 16 #[.pointer (some ⟨P, 0, none⟩)] w fun e w' => ∃ v', e = .returned v' ∧ w'.ownsRow w.heap.size 5 1 v' l.length (l.map (Value.int .u8)) ∧ Below w.heap.size w w' := by
  obtain ⟨av, cv, rfl, _, hbs⟩ := own_bs h.own rfl h.byt
  have c0 := cell_of_row _ P 0 _ _ _ h.cell
  simp at c0
  have HC := Lib.hid (clone_any _ l w hbs h63)
  clear h h63 hbs
  go_enter Try.func16, Try.ntmps16
  go_wp2_with fail
  refine HC.out.mono ?_
  rintro e w1 ⟨v', rfl, ho, hb⟩
  have HO := Lib.hid (And.intro ho hb)
  clear ho hb HC
  go_wp2_with fail
  go_ret
  exact ⟨_, rfl, HO.out.1, HO.out.2⟩
end Go.Proofs.Ytbnclmlbennhaaa
