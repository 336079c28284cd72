/-
  The reference of layer 6: all that it keeps; Peek, Poke, SetLimit.
-/
import Derived.Test.YtmfpdbmohebodaaDRef
namespace Go.Proofs.Ytmfpdbmohebodaa
open Go.RowKit

/-- The cells of writes that wait. -/
def wcell (p : Nat × List (BitVec 8)) : List Value := Value.int .u32 (p.1 : Int) :: p.2.map (fun b => Value.int .u8 (yv b))
def wcells (ws : List (Nat × List (BitVec 8))) : List Value := ws.flatMap wcell
/-- A device of the reference, in memory. -/
structure RD (w : World) (D gl n : Nat) (vw : Value) (F : List (BitVec 8)) (ws : List (Nat × List (BitVec 8))) (lim : Int) (dn : Bool) : Prop where
  dev : w.heap[D]? = some (.cells (rdCells gl n vw lim dn) 48 (0, 0))
  lay : ArrY w gl 49 F
  len : F.length = n * 512
  wai : w.ownsRow 0 73 513 vw ws.length (wcells ws)
  wok : ∀ p ∈ ws, p.2.length = 512 ∧ p.1 < n
  big : n ≤ 4096
  lim1 : lim ≤ 9223372036854775807
theorem own_below' {B n k : Nat} {e : TypeId} {v : Value} {xs : List Value} {w w' : World} (h : w.ownsRow B e k v n xs) (hb : Below w.heap.size w w') : w'.ownsRow B e k v n xs :=
  h.kept (row := none) ⟨hb.os, hb.tape, hb.output, hb.size, fun j hj _ => hb.block j hj⟩ (by by_cases q : v.ownBlock = none; exact .inl q; exact .inr q)
theorem rd_lt {w : World} {D : Nat} {o : Obj} (h : w.heap[D]? = some o) : D < w.heap.size := (Array.getElem?_eq_some_iff.1 h).1
theorem RD.below {w w' : World} {D gl n : Nat} {vw : Value} {F : List (BitVec 8)} {ws : List (Nat × List (BitVec 8))} {lim : Int} {dn : Bool} (h : RD w D gl n vw F ws lim dn) (hb : Below w.heap.size w w') : RD w' D gl n vw F ws lim dn :=
  ⟨(hb.block D (rd_lt h.dev)).trans h.dev, h.lay.below hb (zlt h.lay), h.len, own_below' h.wai hb, h.wok, h.big, h.lim1⟩
/-- A slice that reads as bytes, and an error. -/
def Sect (w : World) (L : List (BitVec 8)) (err : Int) (e : Ending) (w' : World) : Prop := ∃ v, e = .returned (.tuple #[v, .int .i64 err]) ∧ BS w' v (L.map yv) ∧ Below w.heap.size w w'
theorem bs_none (w : World) : BS w (.slice none 0 0) (([] : List (BitVec 8)).map yv) := ⟨none, 0, rfl, by intro z hz; simp at hz, fun _ => rfl, .inl rfl⟩
theorem slice_sec (g o : Nat) (W : World) : (Instr.sliceAt 49 (.pointer (some ⟨g, o, none⟩)) none none none).run Try.prog W = .ok (.slice (some ⟨g, o, none⟩) 512 512) W := by
  obtain ⟨i0, hi0, _⟩ := Option.map_eq_some_iff.1 yone
  simp [Instr.sliceAt, run_underlying Try.underlying49, Instr.sureAddr, Instr.sliceBounds, sizeOf, typeInfo, hi0, Addr.add_mid]
theorem index_sec (gl n a : Nat) (h : a < n) (W : World) : (Instr.indexAt 45 (.slice (some ⟨gl, 0, none⟩) n n) (.int .u32 (a : Int))).run Try.prog W = .ok (.pointer (some ⟨gl, a * 512, none⟩)) W := by
  obtain ⟨i0, hi, hs⟩ := Option.map_eq_some_iff.1 (show (Try.prog.info? 49).map (·.size) = some 512 by kernel_rfl)
  simp [Instr.indexAt, asIntOf, run_underlying Try.underlying45, sizeOf, typeInfo, hi, hs, h, Addr.add_mid]
theorem BS.of_sec {w : World} {g t a n : Nat} {F : List (BitVec 8)} (h : ArrY w g t F) (hl : F.length = n * 512) (ha : a < n) : BS w (.slice (some ⟨g, a * 512, none⟩) 512 512) ((secY F a).map yv) :=
  BS.of_arr (cap := 512) h (by omega)

set_option maxRecDepth 100000 in
set_option maxHeartbeats 1600000 in
theorem rpeek_any (D gl n a : Nat) (vw : Value) (F : List (BitVec 8)) (ws : List (Nat × List (BitVec 8))) (lim : Int) (dn : Bool) (w : World) (h : RD w D gl n vw F ws lim dn) (ha : a < 4294967296) :
    Calls Try.prog 26 #[.pointer (some ⟨D, 0, none⟩), .int .u32 (a : Int)] w (Sect w (if a < n then secY F a else []) (if a < n then 0 else 2)) := by
  have HT := Lib.hid (rthere_any D gl n a vw lim dn w h.dev h.big ha)
  obtain ⟨c0, _, _, _⟩ := rd_at h.dev
  have H := Lib.hid h
  have aI : (a : Int) < 4294967296 := by omega
  by_cases hlt : a < n
  · rw [if_pos hlt, if_pos hlt]
    have HL := Lib.hid hlt
    have HT2 := Lib.hid (show Calls Try.prog 37 #[.pointer (some ⟨D, 0, none⟩), .int .u32 (a : Int)] w fun e w' => e = .returned (.bool true) ∧ w' = w by have q := HT.out; rw [show decide (a < n) = true by simp [hlt]] at q; exact q)
    have hsl := slice_sec gl (a * 512)
    have hix := index_sec gl n a hlt
    have aN : (a : Int) < (n : Int) := by omega
    have a0 : (0 : Int) ≤ (a : Int) := by omega
    have HBUF := Lib.hid (World.ownsRow_lit (base := w.heap.size) (e := 5) (size := 1) w #[] 0 (Nat.le_refl _) (by unfold maxLen; omega) rfl)
    have HB2 := Lib.hid (show Below w.heap.size w (w.alloc (.cells #[] 5)) from (Below.refl _ _).alloc (Nat.le_refl _) _)
    have c0' := (HB2.out.cell (p := ⟨D, 0, none⟩) (rd_lt h.dev)).trans c0
    have A1 := Lib.hid ((BS.of_sec h.lay h.len hlt).kept HB2.out)
    have HSL := Lib.hid (secY_length F a n h.len hlt)
    have HLE := Lib.hid (show 0 + ((secY F a).map yv).length ≤ 140737488355328 by rw [List.length_map, HSL.out]; omega)
    generalize secY F a = SA at *
    clear h ha hlt HT
    go_enter Try.func26, Try.ntmps26
    go_wp2_with fail
    refine HT2.out.mono ?_
    rintro e w1 ⟨rfl, rfl⟩
    go_wp2_with (first
      | (at_builtin; with_reducible refine wpList_append_BS (o := ⟨some 18, _, _, _, _, _⟩) rfl _ _ rfl w1.heap.size (.slice (some ⟨w1.heap.size, 0, none⟩) 0 0) 0 [] rfl HBUF.out (.slice (some ⟨gl, a * 512, none⟩) 512 512) (SA.map yv) rfl A1.out HLE.out (by simp) ?_; intro v7 w7 ho7 hg7))
    go_ret2
    have hb7 := HB2.out.grown hg7 (by simp) (by intro k hk; simp [Value.ownBlock] at hk; omega)
    rw [List.nil_append, Nat.zero_add, List.length_map, HSL.out] at ho7
    obtain ⟨a7, cap7, rfl, _, _, B7⟩ := own_bytes ho7 HSL.out
    unfold Sect
    exact ⟨_, rfl, B7, hb7⟩
  · rw [if_neg hlt, if_neg hlt]
    have HT2 := Lib.hid (show Calls Try.prog 37 #[.pointer (some ⟨D, 0, none⟩), .int .u32 (a : Int)] w fun e w' => e = .returned (.bool false) ∧ w' = w by have q := HT.out; rw [show decide (a < n) = false by simp; omega] at q; exact q)
    clear h ha hlt HT
    go_enter Try.func26, Try.ntmps26
    go_wp2_with fail
    refine HT2.out.mono ?_
    rintro e w1 ⟨rfl, rfl⟩
    go_wp2_with fail
    go_ret2
    unfold Sect
    exact ⟨_, rfl, bs_none _, Below.refl _ _⟩
end Go.Proofs.Ytmfpdbmohebodaa
