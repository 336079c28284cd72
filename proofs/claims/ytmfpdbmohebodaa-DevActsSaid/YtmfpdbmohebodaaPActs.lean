/-
  The acts of layer 6's first law: how they come in, an act's bytes.
-/
import Derived.Test.YtmfpdbmohebodaaPPair
namespace Go.Proofs.Ytmfpdbmohebodaa
open Go.ChangeShapes Go.WideShapes Go.ChangeAt Go.RowKit

/-- An act. -/
structure ActV where
  kd : Int
  adr : Nat
  x : BitVec 8
  y : BitVec 8
  sh : Bool
  nn : Int
  kp : Nat
structure ActV.Ok (q : ActV) : Prop where
  adr : q.adr < 4294967296
  kp : q.kp < 18446744073709551616
  kd0 : -9223372036854775808 ≤ q.kd
  kd1 : q.kd ≤ 9223372036854775807
  nn0 : -9223372036854775808 ≤ q.nn
  nn1 : q.nn ≤ 9223372036854775807
def actRow (q : ActV) : List Value := [.int .i64 q.kd, .int .u32 (q.adr : Int), .int .u8 (yv q.x), .int .u8 (yv q.y), .bool q.sh, .int .i64 q.nn, .int .u64 (q.kp : Int)]
theorem zero_act (W : World) : (zeroValue 35).run Try.prog W = .ok (.agg #[.int .i64 0, .int .u32 0, .int .u8 0, .int .u8 0, .bool false, .int .i64 0, .int .u64 0]) W := by kernel_rfl
theorem size_act (q : ActV) : (Try.prog.info? 35).map (·.size) = some (actRow q).length := by
  rw [show (Try.prog.info? 35).map (·.size) = some 7 by kernel_rfl]; rfl
theorem act_one (q : ActV) : (actRow q).toArray.all (·.oneCell') = true := by
  apply all_oneCell_toArray
  intro v hv
  simp only [actRow, List.mem_cons, List.not_mem_nil, or_false] at hv
  rcases hv with rfl | rfl | rfl | rfl | rfl | rfl | rfl <;> rfl
theorem index_act (b off len cap i : Nat) (h : i < len) (W : World) : (Instr.indexAt 22 (.slice (some ⟨b, off, none⟩) len cap) (.int .i64 (i : Int))).run Try.prog W = .ok (.pointer (some ⟨b, off + i * 7, none⟩)) W := by
  obtain ⟨i0, hi, hs⟩ := Option.map_eq_some_iff.1 (show (Try.prog.info? 35).map (·.size) = some 7 by kernel_rfl)
  simp [Instr.indexAt, asIntOf, run_underlying Try.underlying22, sizeOf, typeInfo, hi, hs, h, Addr.add_mid]
theorem act_at {W : World} {T t : Nat} {fr : Nat × Nat} {q : ActV} (h : W.heap[T]? = some (.cells (actRow q).toArray t fr)) :
    W.cell? ⟨T, 0, none⟩ = some (.int .i64 q.kd) ∧ W.cell? ⟨T, 1, none⟩ = some (.int .u32 (q.adr : Int)) ∧ W.cell? ⟨T, 2, none⟩ = some (.int .u8 (yv q.x)) ∧ W.cell? ⟨T, 3, none⟩ = some (.int .u8 (yv q.y)) ∧ W.cell? ⟨T, 4, none⟩ = some (.bool q.sh) ∧ W.cell? ⟨T, 5, none⟩ = some (.int .i64 q.nn) ∧ W.cell? ⟨T, 6, none⟩ = some (.int .u64 (q.kp : Int)) :=
  ⟨cell_of_row _ _ _ _ _ _ h, cell_of_row _ _ _ _ _ _ h, cell_of_row _ _ _ _ _ _ h, cell_of_row _ _ _ _ _ _ h, cell_of_row _ _ _ _ _ _ h, cell_of_row _ _ _ _ _ _ h, cell_of_row _ _ _ _ _ _ h⟩
section
variable {H : Type} {enc : TypeId × Value → H}
theorem open_acts {W : World} {base : Nat} {v : Value} {d : DataW H} {p : List MemPlace} {ts : List TypeId} {ds : List (DataW H)} (hok : Value.okWide Try.prog W .any base 22 v) (h : ∃ fuel, DataW.trod enc Try.prog W 0 (fun _ => true) true fuel 22 v.cells.toList = some (d, p))
    (_hsz : (DataW.weightsEach Try.prog ts ds).all (· ≤ reachBytes) = true) :
    ∃ (a : Option Addr) (len cap : Nat), v = .slice a len cap ∧ (∀ i, i < len → ∃ b off, a = some ⟨b, off, none⟩ ∧ ∃ q : ActV, q.Ok ∧ W.rangeAt b (off + i * 7) (actRow q)) ∧ len ≤ maxLen := by
  obtain ⟨a, len, cap, rfl⟩ := okWide_slice Try.underlying22 hok
  obtain ⟨fuel, hf⟩ := h
  rcases Go.Deep.open_slice Try.underlying22 hf with ⟨hcs, _⟩ | ⟨x, l, c, m, n, D, Pl, hcs, _, hl, hm, hmm, _, hx⟩
  · simp [Value.cells] at hcs
    obtain ⟨rfl, rfl, rfl⟩ := hcs
    exact ⟨none, 0, 0, rfl, fun i hi => by omega, by omega⟩
  · simp [Value.cells] at hcs
    obtain ⟨rfl, rfl, rfl⟩ := hcs
    simp only [if_true] at hmm
    subst hmm
    refine ⟨some x, len, m, rfl, fun i hi => ?_, by omega⟩
    have ce : Try.prog.cellsOf 35 = 7 := by kernel_rfl
    obtain ⟨cs', h1, h2⟩ := hx i (by omega)
    rw [ce] at h1
    obtain ⟨_, hlen, hcell⟩ := World.cells?_some h1
    obtain ⟨xs, k, _, _, _, hxl, hfs⟩ := DataW.trod_struct Try.underlying35 h2
    have hxk : xs.length = 7 := hxl
    match xs, hxk, cs', hlen with
    | [y0, y1, y2, y3, y4, y5, y6], _, [v0, v1, v2, v3, v4, v5, v6], _ =>
      have e0 : Try.prog.cellsOf 3 = 1 := by kernel_rfl
      have e1 : Try.prog.cellsOf 32 = 1 := by kernel_rfl
      have e2 : Try.prog.cellsOf 5 = 1 := by kernel_rfl
      have e4 : Try.prog.cellsOf 4 = 1 := by kernel_rfl
      have e6 : Try.prog.cellsOf 33 = 1 := by kernel_rfl
      have g0 : DataW.trod enc Try.prog W 0 (fun _ => true) true k 3 [v0] = some y0 := by have q := hfs 0 _ rfl; simpa [e0] using q
      have g1 : DataW.trod enc Try.prog W 0 (fun _ => true) true k 32 [v1] = some y1 := by have q := hfs 1 _ rfl; simpa [e1] using q
      have g2 : DataW.trod enc Try.prog W 0 (fun _ => true) true k 5 [v2] = some y2 := by have q := hfs 2 _ rfl; simpa [e2] using q
      have g3 : DataW.trod enc Try.prog W 0 (fun _ => true) true k 5 [v3] = some y3 := by have q := hfs 3 _ rfl; simpa [e2] using q
      have g4 : DataW.trod enc Try.prog W 0 (fun _ => true) true k 4 [v4] = some y4 := by have q := hfs 4 _ rfl; simpa [e4] using q
      have g5 : DataW.trod enc Try.prog W 0 (fun _ => true) true k 3 [v5] = some y5 := by have q := hfs 5 _ rfl; simpa [e0] using q
      have g6 : DataW.trod enc Try.prog W 0 (fun _ => true) true k 33 [v6] = some y6 := by have q := hfs 6 _ rfl; simpa [e6] using q
      obtain ⟨c0, q0, _, w0⟩ := DataW.trod_int Try.underlying3 g0
      obtain ⟨c1, q1, _, w1⟩ := DataW.trod_int Try.underlying32 g1
      obtain ⟨c2, q2, _, w2⟩ := DataW.trod_int Try.underlying5 g2
      obtain ⟨c3, q3, _, w3⟩ := DataW.trod_int Try.underlying5 g3
      obtain ⟨c4, q4, _⟩ := DataW.trod_bool Try.underlying4 g4
      obtain ⟨c5, q5, _, w5⟩ := DataW.trod_int Try.underlying3 g5
      obtain ⟨c6, q6, _, w6⟩ := DataW.trod_int Try.underlying33 g6
      obtain ⟨bx, rfl⟩ := byte_of w2
      obtain ⟨bY, rfl⟩ := byte_of w3
      simp [Lit.wf, IntKind.min, IntKind.max, IntKind.signed, IntKind.bits] at w0 w1 w5 w6
      simp only [List.cons.injEq, and_true] at q0 q1 q2 q3 q4 q5 q6
      obtain ⟨b, off, spot⟩ := x
      have hspot : spot = none := by
        obtain ⟨cs0, h10, _⟩ := hx 0 (by omega)
        rw [ce] at h10
        obtain ⟨_, hlen0, hcell0⟩ := World.cells?_some h10
        have q := hcell0 0 (by omega)
        rw [List.getElem?_eq_getElem (by omega)] at q
        simpa [Addr.add] using World.cell?_spot q
      subst hspot
      refine ⟨b, off, rfl, ⟨c0, c1.toNat, bx, bY, c4, c5, c6.toNat⟩, ⟨by simp; omega, by simp; omega, by simp; omega, by simp; omega, by simp; omega, by simp; omega⟩, ?_⟩
      intro j u hu
      have hj : j < 7 := by
        have := (List.getElem?_eq_some_iff.1 hu).1
        simpa [actRow] using this
      have e := hcell j hj
      rw [Addr.add_mid, Addr.add_mid] at e
      rw [e, ← hu]
      simp only [actRow, q0, q1, q2, q3, q4, q5, q6, Int.toNat_of_nonneg w1.1, Int.toNat_of_nonneg w6.1]
theorem open_i64 {W : World} {base : Nat} {v : Value} {d : DataW H} {p : List MemPlace} {ts : List TypeId} {ds : List (DataW H)} (hok : Value.okWide Try.prog W .any base 3 v) (h : ∃ fuel, DataW.trod enc Try.prog W 0 (fun _ => true) true fuel 3 v.cells.toList = some (d, p))
    (_hsz : (DataW.weightsEach Try.prog ts ds).all (· ≤ reachBytes) = true) : ∃ x : Int, v = .int .i64 x ∧ -9223372036854775808 ≤ x ∧ x ≤ 9223372036854775807 := by
  obtain ⟨n, rfl, _, _, hw⟩ := open_int Try.underlying3 hok h
  simp [Lit.wf, IntKind.min, IntKind.max, IntKind.bits, IntKind.signed] at hw
  exact ⟨n, rfl, by omega, by omega⟩
end
theorem slice_one (g : Nat) (W : World) : (Instr.sliceAt 36 (.slice (some ⟨g, 0, none⟩) 512 512) (some (.int .i64 1)) none none).run Try.prog W = .ok (.slice (some ⟨g, 1, none⟩) 511 511) W := by
  obtain ⟨i0, hi0, hs⟩ := Option.map_eq_some_iff.1 yone
  have b : (Instr.sliceBound (.int .i64 1) 512 .sliceB).run Try.prog W = .ok 1 W := ybound_ok 1 512 .sliceB (by omega) W
  simp [Instr.sliceAt, Instr.slice, run_underlying Try.underlying36, Instr.sliceBounds, sizeOf, typeInfo, hi0, hs, b, Addr.add]
set_option maxRecDepth 100000 in
set_option maxHeartbeats 1600000 in
theorem bytes_any (q : ActV) (w : World) :
    Calls Try.prog 14 #[.agg (actRow q).toArray] w fun e w' => (∃ X, e = .returned (.slice (some ⟨X, if q.sh then 1 else 0, none⟩) (if q.sh then 511 else 512) (if q.sh then 511 else 512)) ∧ ArrY w' X 5 (secB q.x q.y)) ∧ Below w.heap.size w w' := by
  obtain ⟨kd, adr, x, y, sh, nn, kp⟩ := q
  have HS := Lib.hid (fun w => sector_any x y w)
  dsimp only
  generalize secB x y = S at *
  obtain ⟨AR, hAR⟩ : ∃ AR, (actRow ⟨kd, adr, x, y, sh, nn, kp⟩).toArray = AR := ⟨_, rfl⟩
  have HAT := Lib.hid (fun (W : World) (h : W.heap[w.heap.size]? = some (.cells AR 35 (0, 0))) => act_at (W := W) (T := w.heap.size) (q := ⟨kd, adr, x, y, sh, nn, kp⟩) (by rw [hAR]; exact h))
  rw [hAR]
  have hb0 := (Below.refl w.heap.size w).alloc (Nat.le_refl _) (.cells AR 35)
  have h0 := heap_alloc_new w (.cells AR 35)
  have HB0 := Lib.hid hb0
  have H0 := Lib.hid h0
  obtain ⟨_, _, c2, c3, c4, _⟩ := HAT.out _ h0
  dsimp only at c2 c3 c4
  clear hb0 h0 hAR
  cases sh
  all_goals
    go_enter Try.func14, Try.ntmps14
    go_wp2_with fail
    refine (HS.out _).mono ?_
    rintro e w1 ⟨rfl, hA, hb⟩
    rw [show (w.alloc (.cells AR 35)).heap.size = w.heap.size + 1 by simp] at hA
    have HA := Lib.hid hA
    have HB1 := Lib.hid (HB0.out.trans (hb.mono HB0.out.size))
    obtain ⟨_, _, _, _, d4, _⟩ := HAT.out _ ((hb.block w.heap.size (rd_lt H0.out)).trans H0.out)
    clear hA hb c2 c3 c4
    have hs1 := slice_one (w.heap.size + 1)
    go_wp2_with fail
    go_ret
    exact ⟨⟨w.heap.size + 1, rfl, HA.out⟩, HB1.out⟩
end Go.Proofs.Ytmfpdbmohebodaa
