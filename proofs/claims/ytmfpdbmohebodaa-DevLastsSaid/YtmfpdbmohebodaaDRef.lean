/-
  The reference of layer 6: a device laid open, in memory; its small calls.
-/
import Derived.Test.YtmfpdbmohebodaaDSec
namespace Go.Proofs.Ytmfpdbmohebodaa
open Go.RowKit

/-- Sector a of bytes that lie one behind the other. -/
def secY (F : List (BitVec 8)) (a : Nat) : List (BitVec 8) := (F.drop (a * 512)).take 512
theorem secY_length (F : List (BitVec 8)) (a n : Nat) (h : F.length = n * 512) (ha : a < n) : (secY F a).length = 512 := by
  unfold secY; rw [List.length_take, List.length_drop]; omega
/-- The cells of the reference's device. -/
def rdCells (gl n : Nat) (vw : Value) (lim : Int) (dn : Bool) : Array Value := #[.slice (some ⟨gl, 0, none⟩) n n, vw, .int .i64 lim, .bool dn]
theorem rd_at {w : World} {D t gl n : Nat} {vw : Value} {lim : Int} {dn : Bool} (h : w.heap[D]? = some (.cells (rdCells gl n vw lim dn) t (0, 0))) :
    w.cell? ⟨D, 0, none⟩ = some (.slice (some ⟨gl, 0, none⟩) n n) ∧ w.cell? ⟨D, 1, none⟩ = some vw ∧ w.cell? ⟨D, 2, none⟩ = some (.int .i64 lim) ∧ w.cell? ⟨D, 3, none⟩ = some (.bool dn) :=
  ⟨cell_of_row _ _ _ _ _ _ h, cell_of_row _ _ _ _ _ _ h, cell_of_row _ _ _ _ _ _ h, cell_of_row _ _ _ _ _ _ h⟩
theorem rd_free {w : World} {D t gl n : Nat} {vw : Value} {lim : Int} {dn : Bool} (h : w.heap[D]? = some (.cells (rdCells gl n vw lim dn) t (0, 0))) (k : Nat) : w.frozen? ⟨D, k, none⟩ = false := frozen_of_row w D k _ _ h

set_option maxHeartbeats 800000 in
theorem rthere_any (D gl n a : Nat) (vw : Value) (lim : Int) (dn : Bool) (w : World) (h : w.heap[D]? = some (.cells (rdCells gl n vw lim dn) 48 (0, 0))) (hn : n ≤ 4096) (ha : a < 4294967296) :
    Calls Try.prog 37 #[.pointer (some ⟨D, 0, none⟩), .int .u32 (a : Int)] w fun e w' => e = .returned (.bool (decide (a < n))) ∧ w' = w := by
  obtain ⟨c0, c1, c2, c3⟩ := rd_at h
  have aI : (a : Int) < 4294967296 := by omega
  have nI : (n : Int) ≤ 4096 := by omega
  have HD := Lib.hid (show decide ((a : Int) < (n : Int)) = decide (a < n) by simp)
  clear h hn ha c1 c2 c3
  go_enter Try.func37, Try.ntmps37
  go_wp2_with fail
  go_ret
  exact ⟨by rw [← HD.out]; simp, rfl⟩
/-- Whether one more goes well: the limit, and whether it is down, behind it. -/
def goM (lim : Int) (dn : Bool) : Int × Bool := (if 0 < lim then lim - 1 else lim, dn || decide (lim = 0))
set_option maxHeartbeats 1600000 in
theorem rgoes_any (D gl n : Nat) (vw : Value) (lim : Int) (dn : Bool) (w : World) (h : w.heap[D]? = some (.cells (rdCells gl n vw lim dn) 48 (0, 0))) (hl : lim ≤ 9223372036854775807) :
    Calls Try.prog 35 #[.pointer (some ⟨D, 0, none⟩)] w fun e w' => e = .returned (.bool (!(goM lim dn).2)) ∧ w'.heap[D]? = some (.cells (rdCells gl n vw (goM lim dn).1 (goM lim dn).2) 48 (0, 0)) ∧ Only D w w' := by
  obtain ⟨c0, c1, c2, c3⟩ := rd_at h
  have f2 := rd_free h 2
  have f3 := rd_free h 3
  have H := Lib.hid h
  rcases Int.lt_trichotomy lim 0 with h0 | h0 | h0
  · have b1 : (lim == 0) = false := by simp; omega
    have b2 : decide ((0 : Int) < lim) = false := by simp; omega
    have HG := Lib.hid (show goM lim dn = (lim, dn) by unfold goM; rw [if_neg (by omega)]; simp; omega)
    clear h h0 c0 c1
    go_enter Try.func35, Try.ntmps35
    go_wp2_with fail
    go_ret
    rw [HG.out]
    exact ⟨rfl, H.out, Only.refl _ _⟩
  · subst h0
    have HG := Lib.hid (show goM 0 dn = (0, true) by unfold goM; simp)
    clear h c0 c1 hl
    go_enter Try.func35, Try.ntmps35
    go_wp2_with fail
    go_ret
    rw [HG.out]
    exact ⟨rfl, heap_setCell_same _ _ _ _ _ _ H.out, (Only.refl _ _).setCell _ _⟩
  · have b1 : (lim == 0) = false := by simp; omega
    have HG := Lib.hid (show goM lim dn = (lim - 1, dn) by unfold goM; rw [if_pos h0]; simp; omega)
    clear h c0 c1
    go_enter Try.func35, Try.ntmps35
    go_wp2_with fail
    go_ret
    rw [HG.out]
    exact ⟨rfl, heap_setCell_same _ _ _ _ _ _ H.out, (Only.refl _ _).setCell _ _⟩
end Go.Proofs.Ytmfpdbmohebodaa
