/-
  The reference of layer 7: a text's bytes; acts.
-/
import Derived.Test.YtclahpmghifehaaQStr
import Derived.Lib.AppendStr
namespace Go.Proofs.Ytclahpmghifehaa
open Go.RowKit

theorem strCells_b (s : ByteArray) : Lib.strCells s = (btxt s).map (Value.int .u8) := by
  unfold Lib.strCells btxt
  rw [List.map_map]
  rfl
set_option maxHeartbeats 1600000 in
theorem rstr7_any (s : ByteArray) (w : World) (hs : s.size ≤ 255) :
    Calls Try.prog 28 #[.string s] w fun e w' => ∃ a c, e = .returned (.slice a (1 + s.size) c) ∧ w'.ownsRow w.heap.size 5 1 (.slice a (1 + s.size) c) (1 + s.size) ((((s.size : Int) :: btxt s)).map (Value.int .u8)) ∧ Below w.heap.size w w' := by
  obtain ⟨i0, hi, hz0, hz1, hz2⟩ := info_parts info_u8
  have HI := Lib.hid (And.intro hi (And.intro hz0 (And.intro hz1 hz2)))
  have sI : (s.size : Int) ≤ 255 := by omega
  have HS := Lib.hid hs
  have HBUF := Lib.hid (World.ownsRow_lit (base := w.heap.size) (e := 5) (size := 1) w #[.int .u8 (s.size : Int)] 1 (Nat.le_refl _) (by unfold maxLen; omega) rfl)
  have HB1 := Lib.hid ((Below.refl w.heap.size w).alloc (Nat.le_refl _) (.cells #[.int .u8 (s.size : Int)] 5))
  clear hi hz0 hz1 hz2 hs
  go_enter Try.func28, Try.ntmps28
  go_wp2_with (first
    | (at_builtin; (refine Lib.wpList_append_own_string (o := ⟨some 8, _, _, _, _, _⟩) _ rfl _ _ 25 9 rfl w.heap.size 5 i0 Try.underlying25 Try.underlying9 HI.out.1 HI.out.2.1 HI.out.2.2.1 HI.out.2.2.2 (.slice (some ⟨w.heap.size, 0, none⟩) 1 1) 1 _ rfl HBUF.out s rfl (by unfold maxLen; have := HS.out; omega) (by have := HS.out; omega) (by have := HB1.out.size; omega) ?_); intro v6 w6 ho6 hg6 _))
  have hb6 := HB1.out.grown hg6 (by have := HB1.out.size; omega) (by intro k hk; simp [Value.ownBlock] at hk; omega)
  obtain ⟨a6, c6, rfl⟩ : ∃ a c, v6 = .slice a (1 + s.size) c := by
    rcases ho6.2 with ⟨h5, h6⟩ | ⟨g', c, cur, h5, _⟩
    · omega
    · exact ⟨_, _, h5⟩
  rw [strCells_b] at ho6
  have HO := Lib.hid ho6
  have HB := Lib.hid hb6
  clear ho6 hb6 hg6
  go_wp2_with fail
  go_ret
  exact ⟨a6, c6, rfl, HO.out, HB.out⟩
/-- An act: what is laid, or read. -/
structure LayV where
  kd : Int
  sz : Int
  n : Nat
  s : ByteArray
  h : List Int
  ab : Option Addr
  lb : Nat
  cb : Nat
  bl : List Int
def layRow (q : LayV) : List Value := [.int .i64 q.kd, .int .i64 q.sz, .int .u64 (q.n : Int), .string q.s] ++ (q.h.map (Value.int .u8) ++ [.slice q.ab q.lb q.cb])
theorem lay_at {W : World} {T t : Nat} {fr : Nat × Nat} {q : LayV} (h : W.heap[T]? = some (.cells (layRow q).toArray t fr)) (hh : q.h.length = 32) :
    W.cell? ⟨T, 0, none⟩ = some (.int .i64 q.kd) ∧ W.cell? ⟨T, 1, none⟩ = some (.int .i64 q.sz) ∧ W.cell? ⟨T, 2, none⟩ = some (.int .u64 (q.n : Int)) ∧ W.cell? ⟨T, 3, none⟩ = some (.string q.s) ∧ W.cell? ⟨T, 36, none⟩ = some (.slice q.ab q.lb q.cb) ∧ ∀ j v, (q.h.map (Value.int .u8))[j]? = some v → W.cell? ⟨T, 4 + j, none⟩ = some v := by
  refine ⟨cell_of_row _ _ _ _ _ _ h, cell_of_row _ _ _ _ _ _ h, cell_of_row _ _ _ _ _ _ h, cell_of_row _ _ _ _ _ _ h, ?_, fun j v hv => ?_⟩
  · rw [cell_of_row _ _ _ _ _ _ h]
    simp [layRow, hh]
  · rw [cell_of_row _ _ _ _ _ _ h, List.getElem?_toArray, layRow]
    have hj : j < 32 := by
      have := (List.getElem?_eq_some_iff.1 hv).1
      simpa [hh] using this
    rw [List.getElem?_append_right (by simp), List.getElem?_append_left (by simp [hh]; omega)]
    simpa using hv
end Go.Proofs.Ytclahpmghifehaa
