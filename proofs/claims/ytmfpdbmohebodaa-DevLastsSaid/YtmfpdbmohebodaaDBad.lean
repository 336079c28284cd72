/-
  The reference of layer 6: the answers that are no; New.
-/
import Derived.Test.YtmfpdbmohebodaaDFlush
namespace Go.Proofs.Ytmfpdbmohebodaa
open Go.RowKit

set_option maxHeartbeats 800000 in
theorem rflush_down (D gl n : Nat) (vw : Value) (F : List (BitVec 8)) (ws : List (Nat × List (BitVec 8))) (lim : Int) (w : World) (h : RD w D gl n vw F ws lim true) :
    Calls Try.prog 16 #[.pointer (some ⟨D, 0, none⟩)] w fun e w' => e = .returned (.int .i64 7) ∧ w' = w := by
  obtain ⟨_, _, _, c3⟩ := rd_at h.dev
  clear h
  go_enter Try.func16, Try.ntmps16
  go_wp2_with fail
  go_ret
  exact ⟨rfl, rfl⟩

set_option maxHeartbeats 800000 in
theorem rflush_limit (D gl n : Nat) (vw : Value) (F : List (BitVec 8)) (ws : List (Nat × List (BitVec 8))) (w : World) (h : RD w D gl n vw F ws 0 false) :
    Calls Try.prog 16 #[.pointer (some ⟨D, 0, none⟩)] w fun e w' => e = .returned (.int .i64 7) ∧ RD w' D gl n vw F ws 0 true ∧ Only D w w' := by
  obtain ⟨_, _, _, c3⟩ := rd_at h.dev
  have hgo := rgoes_any D gl n vw 0 false w h.dev h.lim1
  rw [show goM 0 false = (0, true) by unfold goM; simp] at hgo
  have HG := Lib.hid hgo
  have H := Lib.hid h
  clear hgo h
  go_enter Try.func16, Try.ntmps16
  go_wp2_with fail
  refine HG.out.mono ?_
  rintro e w1 ⟨rfl, hD1, hO1⟩
  have H1 := Lib.hid (H.out.redev hO1 hD1 (by omega))
  have HO := Lib.hid hO1
  clear hD1 hO1 c3 HG
  go_wp2_with fail
  go_ret
  exact ⟨rfl, H1.out, HO.out⟩

set_option maxHeartbeats 800000 in
theorem rpoke_far (D gl n a : Nat) (vw v : Value) (F : List (BitVec 8)) (ws : List (Nat × List (BitVec 8))) (lim : Int) (dn : Bool) (w : World) (h : RD w D gl n vw F ws lim dn) (ha : a < 4294967296) (hn : n ≤ a) :
    Calls Try.prog 22 #[.pointer (some ⟨D, 0, none⟩), .int .u32 (a : Int), v] w fun e w' => e = .returned (.int .i64 2) ∧ w' = w := by
  have HT := Lib.hid (show Calls Try.prog 37 #[.pointer (some ⟨D, 0, none⟩), .int .u32 (a : Int)] w fun e w' => e = .returned (.bool false) ∧ w' = w by have q := rthere_any D gl n a vw lim dn w h.dev h.big ha; rw [show decide (a < n) = false by simp; omega] at q; exact q)
  clear h ha hn
  go_enter Try.func22, Try.ntmps22
  go_wp2_with fail
  refine HT.out.mono ?_
  rintro e w1 ⟨rfl, rfl⟩
  go_wp2_with fail
  go_ret
  exact ⟨rfl, rfl⟩

set_option maxHeartbeats 800000 in
theorem rpoke_size (D gl n a : Nat) (vw : Value) (F : List (BitVec 8)) (ws : List (Nat × List (BitVec 8))) (lim : Int) (dn : Bool) (ab : Option Addr) (lb capb : Nat) (w : World) (h : RD w D gl n vw F ws lim dn) (ha : a < n) (hl : lb ≠ 512) :
    Calls Try.prog 22 #[.pointer (some ⟨D, 0, none⟩), .int .u32 (a : Int), .slice ab lb capb] w fun e w' => e = .returned (.int .i64 2) ∧ w' = w := by
  have hbig := h.big
  have HT := Lib.hid (show Calls Try.prog 37 #[.pointer (some ⟨D, 0, none⟩), .int .u32 (a : Int)] w fun e w' => e = .returned (.bool true) ∧ w' = w by have q := rthere_any D gl n a vw lim dn w h.dev h.big (by omega); rw [show decide (a < n) = true by simp [ha]] at q; exact q)
  have hbv : ((lb : Int) == 512) = false := by simp; omega
  clear h ha hl hbig
  go_enter Try.func22, Try.ntmps22
  go_wp2_with fail
  refine HT.out.mono ?_
  rintro e w1 ⟨rfl, rfl⟩
  go_wp2_with fail
  go_ret
  exact ⟨rfl, rfl⟩

set_option maxHeartbeats 800000 in
theorem rnew_small (x : Int) (w : World) (hx : x < 16) :
    Calls Try.prog 12 #[.int .i64 x] w fun e w' => e = .returned (.tuple #[.pointer none, .bool false]) ∧ w' = w := by
  go_enter Try.func12, Try.ntmps12
  go_wp2_with fail
  go_ret2
  exact ⟨rfl, rfl⟩

set_option maxHeartbeats 800000 in
theorem rnew_large (x : Int) (w : World) (hx : 4096 < x) :
    Calls Try.prog 12 #[.int .i64 x] w fun e w' => e = .returned (.tuple #[.pointer none, .bool false]) ∧ w' = w := by
  have h0 : (16 : Int) ≤ x := by omega
  go_enter Try.func12, Try.ntmps12
  go_wp2_with fail
  go_ret2
  exact ⟨rfl, rfl⟩

theorem made_secs (n : Nat) : madeCells (yvs (zeroY 512)) (n * 512) = yvs (zeroY (n * 512)) := by
  rw [yvs_zero, yvs_zero]
  unfold madeCells
  apply Array.ext
  · simp
  · intro i h1 h2
    simp only [Array.getElem_map, Array.getElem_replicate, Array.size_replicate]
    rw [getElem!_pos _ _ (by simp; omega)]
    simp
theorem info_sec : (Try.prog.info? 49).map (fun i => (i.zero, i.size, i.bytes)) = some (some (.agg (yvs (zeroY 512))), 512, 512) := by kernel_rfl
theorem make_secs (n : Nat) (h : n ≤ 4096) (w : World) : (Instr.makeSlice 45 (.int .i64 (n : Int)) (.int .i64 (n : Int))).run Try.prog w = .ok (.slice (some ⟨w.heap.size, 0, none⟩) n n) (w.alloc (.cells (yvs (zeroY (n * 512))) 49)) := by
  obtain ⟨i, hi, hzz⟩ := Option.map_eq_some_iff.1 info_sec
  simp only [Prod.mk.injEq] at hzz
  obtain ⟨hz, hs, hb⟩ := hzz
  rw [run_make (P := Try.prog) w 45 49 i _ Try.underlying45 hi hz .i64 .i64 n n (by omega) (by omega) (by rw [hb]; omega) (by omega), hs]
  simp only [Int.toNat_natCast]
  rw [show (Value.agg (yvs (zeroY 512))).cells = yvs (zeroY 512) from rfl, made_secs]

set_option maxRecDepth 100000 in
set_option maxHeartbeats 1600000 in
theorem rnew_ok (n : Nat) (w : World) (h0 : 16 ≤ n) (h1 : n ≤ 4096) :
    Calls Try.prog 12 #[.int .i64 (n : Int)] w fun e w' => e = .returned (.tuple #[.pointer (some ⟨w.heap.size + 1, 0, none⟩), .bool true]) ∧ RD w' (w.heap.size + 1) w.heap.size n (.slice none 0 0) (zeroY (n * 512)) [] (-1) false ∧ Below w.heap.size w w' := by
  have i0 : (16 : Int) ≤ (n : Int) := by omega
  have i1 : (n : Int) ≤ 4096 := by omega
  have hmk := make_secs n h1
  have H1 := Lib.hid h1
  clear h0 h1
  go_enter Try.func12, Try.ntmps12
  go_wp2_with fail
  clear hmk
  go_ret2
  generalize hO1 : Obj.cells (yvs (zeroY (n * 512))) 49 = O1
  have hb1 : Below w.heap.size w (w.alloc O1) := (Below.refl _ _).alloc (Nat.le_refl _) _
  have hsz : (w.alloc O1).heap.size = w.heap.size + 1 := by simp
  generalize hO2 : Obj.cells #[.slice (some ⟨w.heap.size, 0, none⟩) n n, .slice none 0 0, .int .i64 (-1), .bool false] 48 = O2
  have hb2 : Below w.heap.size w ((w.alloc O1).alloc O2) := hb1.alloc (by omega) _
  have hb3 : Below (w.alloc O1).heap.size (w.alloc O1) ((w.alloc O1).alloc O2) := (Below.refl _ _).alloc (Nat.le_refl _) _
  have e2 := heap_alloc_new (w.alloc O1) O2
  rw [hsz] at e2
  have e1 := (hb3.block w.heap.size (by omega)).trans (heap_alloc_new w O1)
  exact ⟨rfl, ⟨e2.trans (congrArg some hO2.symm), e1.trans (congrArg some hO1.symm), by simp [zeroY], World.ownsRow_nil _ _ _ _, (fun p hp => by cases hp), H1.out, by omega⟩, hb2⟩
end Go.Proofs.Ytmfpdbmohebodaa
