/-
  The program's device of layer 6: Flush, Crash, the nil device.
-/
import Derived.Test.YtmfpdbmohebodaaPSettle
namespace Go.Proofs.Ytmfpdbmohebodaa
open Go.RowKit

theorem all_bits : ∀ m : Nat, m < 64 → (18446744073709551615 : Nat) / 2 ^ m % 2 = 1 := by decide +kernel
theorem crash_all (F : List (BitVec 8)) (ws : List (Nat × List (BitVec 8))) : ∀ i, i ≤ ws.length → crashM 18446744073709551615 (-1) F ws i = flushM F (ws.take i)
  | 0, _ => rfl
  | i + 1, h => by
    rw [crashM, crash_all F ws i (by omega), flushM_next F ws i (by omega), stepC, if_neg (by omega), if_pos (all_bits _ (by omega))]
    simp [List.getD, show i < ws.length by omega]
set_option maxHeartbeats 800000 in
theorem pflush_down (D gl bm n : Nat) (vw : Value) (F : List (BitVec 8)) (ws : List (Nat × List (BitVec 8))) (lim : Int) (dn : Bool) (w : World) (h : PD w D gl bm n vw F ws lim dn) (hdn : (goP lim dn).2 = true) :
    Calls Try.prog 15 #[.pointer (some ⟨D, 0, none⟩)] w fun e w' => e = .returned (.int .i64 7) ∧ PD w' D gl bm n vw F ws (goP lim dn).1 true ∧ Only D w w' := by
  have hgo := pgoes_any D gl bm n vw F ws lim dn w h
  rw [hdn] at hgo
  have HG := Lib.hid hgo
  clear h hgo hdn
  go_enter Try.func15, Try.ntmps15
  go_wp2_with fail
  refine HG.out.mono ?_
  rintro e w2 ⟨rfl, hP, hO⟩
  have HP := Lib.hid hP
  have HO := Lib.hid hO
  clear hP hO HG
  go_wp2_with fail
  go_ret
  exact ⟨rfl, HP.out, HO.out⟩
set_option maxHeartbeats 800000 in
theorem pflush_ok (D gl bm n : Nat) (vw : Value) (F : List (BitVec 8)) (ws : List (Nat × List (BitVec 8))) (lim : Int) (w : World) (h : PD w D gl bm n vw F ws lim false) (hlim : lim ≠ 0) (hws : ws.length ≤ 1000000) :
    Calls Try.prog 15 #[.pointer (some ⟨D, 0, none⟩)] w fun e w' => e = .returned (.int .i64 0) ∧ ∃ bm', PD w' D gl bm' n (.slice none 0 0) (flushM F ws) [] (goP lim false).1 false ∧ Touch [D, gl] w w' ∧ w.heap.size ≤ bm' := by
  have hgo := pgoes_any D gl bm n vw F ws lim false w h
  rw [show (goP lim false).2 = false by unfold goP; simp [hlim]] at hgo
  generalize (goP lim false).1 = lim' at *
  have HG := Lib.hid hgo
  have HWS := Lib.hid hws
  have HC := Lib.hid (crash_all F ws ws.length (Nat.le_refl _))
  clear h hgo hlim hws
  go_enter Try.func15, Try.ntmps15
  go_wp2_with fail
  refine HG.out.mono ?_
  rintro e w2 ⟨rfl, hP, hO⟩
  have HS := Lib.hid (psettle_any D gl bm n 18446744073709551615 (-1) vw F ws lim' false w2 hP HWS.out (by omega))
  have HO := Lib.hid hO
  clear hP hO HG
  go_wp2_with fail
  refine HS.out.mono ?_
  rintro e w3 ⟨rfl, bm', hP, hT, hB⟩
  have HP := Lib.hid hP
  have HT := Lib.hid hT
  have HB := Lib.hid hB
  clear hP hT hB HS
  go_wp2_with fail
  go_ret
  have hp := HP.out
  rw [HC.out, List.take_length] at hp
  exact ⟨rfl, bm', hp, (Touch.of_only HO.out (by simp)).trans HT.out, by have := HB.out; have := HO.out.size; omega⟩
set_option maxHeartbeats 1600000 in
theorem pcrash_any (D gl bm n keep : Nat) (torn : Int) (vw : Value) (F : List (BitVec 8)) (ws : List (Nat × List (BitVec 8))) (lim : Int) (dn : Bool) (w : World) (h : PD w D gl bm n vw F ws lim dn) (hws : ws.length ≤ 1000000) (hk : keep < 18446744073709551616) :
    Calls Try.prog 19 #[.pointer (some ⟨D, 0, none⟩), .int .u64 (keep : Int), .int .i64 torn] w fun e w' => e = .returned (.tuple #[]) ∧ ∃ bm', PD w' D gl bm' n (.slice none 0 0) (crashM keep torn F ws ws.length) [] (-1) false ∧ Touch [D, gl] w w' ∧ w.heap.size ≤ bm' := by
  have HS := Lib.hid (psettle_any D gl bm n keep torn vw F ws lim dn w h hws hk)
  clear h hws hk
  go_enter Try.func19, Try.ntmps19
  go_wp2_with fail
  refine HS.out.mono ?_
  rintro e w3 ⟨rfl, bm', hP, hT, hB⟩
  obtain ⟨left, hd, hle⟩ := hP.dev
  obtain ⟨_, _, _, d3, d4, d5⟩ := pd_at hd
  have f3 := pd_free hd 3
  have f4 := pd_free hd 4
  have f5 := pd_free hd 5
  have h3 := heap_setCell_same _ D 5 _ _ (.bool false) (heap_setCell_same _ D 4 _ _ (.int .i64 0) (heap_setCell_same w3 D 3 _ _ (.bool false) hd))
  have hO : Only D w3 (((w3.setCell ⟨D, 3, none⟩ (.bool false)).setCell ⟨D, 4, none⟩ (.int .i64 0)).setCell ⟨D, 5, none⟩ (.bool false)) := (((Only.refl _ _).setCell _ _).setCell _ _).setCell _ _
  have HP := Lib.hid (show PD (((w3.setCell ⟨D, 3, none⟩ (.bool false)).setCell ⟨D, 4, none⟩ (.int .i64 0)).setCell ⟨D, 5, none⟩ (.bool false)) D gl bm' n (.slice none 0 0) (crashM keep torn F ws ws.length) [] (-1) false from hP.redev (left' := 0) hO h3 (fun h => by omega) (by omega))
  have HT := Lib.hid (hT.trans (Touch.of_only hO (by simp)))
  have HB := Lib.hid hB
  clear hP hT hB HS hd hle h3 hO
  go_wp2_with fail
  go_end0
  exact ⟨rfl, bm', HP.out, HT.out, HB.out⟩
set_option maxHeartbeats 800000 in
theorem pread_nil (a : Int) (w : World) :
    Calls Try.prog 23 #[.pointer none, .int .u32 a] w fun e w' => e = .returned (.tuple #[.slice none 0 0, .int .i64 1]) ∧ w' = w := by
  have HT : Calls Try.prog 38 #[.pointer none, .int .u32 a] w fun e w' => e = .returned (.int .i64 1) ∧ w' = w := by
    go_enter Try.func38, Try.ntmps38
    go_wp2_with fail
    go_ret
    exact ⟨rfl, rfl⟩
  go_enter Try.func23, Try.ntmps23
  go_wp2_with fail
  refine HT.mono ?_
  rintro e w1 ⟨rfl, rfl⟩
  go_wp2_with fail
  go_ret2
  exact ⟨rfl, rfl⟩
set_option maxHeartbeats 800000 in
theorem pdown_nil (w : World) : Calls Try.prog 31 #[.pointer none] w fun e w' => e = .returned (.bool true) ∧ w' = w := by
  go_enter Try.func31, Try.ntmps31
  go_wp2_with fail
  go_ret
  exact ⟨rfl, rfl⟩
end Go.Proofs.Ytmfpdbmohebodaa
