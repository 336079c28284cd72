/-
  A map of bytes that a law keeps beside its device.
-/
import Derived.Test.YtmfpdbmohebodaaPMay
namespace Go.Proofs.Ytmfpdbmohebodaa
open Go.RowKit
open Go.Maps (Keyed)

/-- The map in block wb tells of each sector the byte wv. -/
def WasR (W : World) (wb c : Nat) (wv : Nat → BitVec 8) : Prop :=
  ∃ Dm, W.ownsMap Try.prog 32 (plainElem (H := Unit) Try.prog 5) wb c Dm ∧ Maps.IsMap Dm ∧ ∀ a : Nat, a < 16 → Dm.atKey (.int .u32 (a : Int)) (.lit (.int .u8 0)) = .lit (.int .u8 (yv (wv a)))
theorem WasR.keep {W W' : World} {wb c : Nat} {wv : Nat → BitVec 8} (h : WasR W wb c wv) (e : W'.heap[wb]? = W.heap[wb]?) : WasR W' wb c wv := by
  obtain ⟨Dm, h1, h2, h3⟩ := h
  exact ⟨Dm, map_keep h1 e, h2, h3⟩
theorem WasR.lt {W : World} {wb c : Nat} {wv : Nat → BitVec 8} (h : WasR W wb c wv) : wb < W.heap.size := by
  obtain ⟨Dm, h1, _⟩ := h
  exact h1.lt
theorem was_made (w : World) : WasR (w.alloc (.map #[] 0)) w.heap.size 0 (fun _ => 0) := ⟨_, World.ownsMap_made w _ _ _, Maps.isMap_empty, fun _ _ => rfl⟩
theorem was_look {W : World} {wb c : Nat} {wv : Nat → BitVec 8} (h : WasR W wb c wv) (a : Nat) (ha : a < 16) :
    (Instr.lookup 54 (.map (some wb)) (.int .u32 (a : Int)) false).run Try.prog W = .ok (.int .u8 (yv (wv a))) W := by
  obtain ⟨Dm, h1, _, h3⟩ := h
  obtain ⟨c, hr, hat, _⟩ := h1.lookup_int (t := 54) (Maps.int_keyed Try.underlying32) Try.underlying54 Try.underlying5 (by kernel_rfl) (key_u32 a (by omega))
  rw [h3 a ha] at hat
  injection hat with e
  injection e with _ e
  rw [hr, ← e]
theorem was_put {W : World} {wb c : Nat} {wv : Nat → BitVec 8} (h : WasR W wb c wv) (hc : c < 1000000) (a : Nat) (ha : a < 16) (x : BitVec 8) :
    ∃ W', (Instr.mapUpdate 54 (.map (some wb)) (.int .u32 (a : Int)) (.int .u8 (yv x))).run Try.prog W = .ok () W' ∧ WasR W' wb (c + 1) (fun j => if j = a then x else wv j) ∧ Touch [wb] W W' := by
  obtain ⟨Dm, h1, h2, h3⟩ := h
  obtain ⟨W', hr, ho, hg⟩ := h1.update (t := 54) (e := 5) (Maps.int_keyed Try.underlying32) Try.underlying54 (by unfold maxLen; omega) (key_u32 a (by omega)) (plainElem_int (H := Unit) Try.underlying5 (a := yv x) (by
    have h := x.isLt
    simp [Lit.wf, IntKind.min, IntKind.max, IntKind.bits, IntKind.signed, yv_nat]; omega))
  refine ⟨W', hr, ⟨_, ho, h2.put _ _, fun j hj => ?_⟩, ⟨hg.os, hg.tape, hg.output, hg.size, fun k h1 h2 => hg.block k h1 (by simpa using h2)⟩⟩
  by_cases e : j = a
  · subst e
    dsimp only
    rw [if_pos rfl, Maps.atKey_put_same h2 (by trivial)]
  · dsimp only
    rw [if_neg e, Maps.atKey_put_other (by intro q; injection q with _ q; omega), h3 j hj]
/-- What lies there when all that waits is laid. -/
def LayR (F : List (BitVec 8)) (wv : Nat → BitVec 8) : Prop := F.length = 16 * 512 ∧ ∀ a, a < 16 → secY F a = secB (wv a) (wv a)
theorem lay_zero : LayR (zeroY (16 * 512)) (fun _ => 0) := ⟨List.length_replicate, fun a ha => by rw [secY_zero 16 a ha, secB_zero]⟩
theorem lay_put {F : List (BitVec 8)} {wv : Nat → BitVec 8} (h : LayR F wv) (q : Nat) (hq : q < 16) (x : BitVec 8) : LayR (putL F (q * 512) (secB x x)) (fun j => if j = q then x else wv j) := by
  have hl := secB_length x x
  refine ⟨by rw [putL_length _ _ _ (by rw [h.1, hl]; omega)]; exact h.1, fun a ha => ?_⟩
  by_cases e : a = q
  · subst e
    dsimp only
    rw [if_pos rfl]
    exact secY_same F _ a 16 h.1 hq hl
  · dsimp only
    rw [if_neg e, secY_other F _ q a 16 h.1 hq (by omega) (Ne.symm e)]
    exact h.2 a ha
theorem lay_good {F : List (BitVec 8)} {wv : Nat → BitVec 8} (h : LayR F wv) (M : Nat → BitVec 8 → Prop) (hM : ∀ a, a < 16 → M a (wv a)) : GoodF F M :=
  ⟨h.1, fun a ha k hk => by rw [h.2 a ha, secB_all _ _ hk]; exact hM a ha⟩
theorem built_two (p q : Value) (hp : p.cells = #[p]) (hq : q.cells = #[q]) (W : World) : (Instr.build 58 #[(0, p), (1, q)]).run Try.prog W = .ok (.agg #[p, q]) W := by
  refine run_build W 58 _ _ ?_
  rw [show Try.prog.built 58 [(0, p), (1, q)] = Instr.fill (fun i => some (i * 1, 1)) #[.int .u8 0, .int .u8 0] [(0, p), (1, q)] by kernel_rfl]
  simp [Instr.fill, hp, hq]
theorem index_flat {P : Program} (T E : TypeId) (n : Nat) (cs : Array Value) (k : Nat) (v : Value) (i0 : TypeInfo) (d : TypeDesc) (hu : P.underlying T = some (.array n E)) (hE : P.underlying E = some d)
    (hd : (match d with | .struct _ | .array _ _ => true | _ => false) = false) (hi : P.info? E = some i0) (hs : i0.size = 1) (hk : k < n) (hv : cs[k]? = some v) (w : World) :
    (Instr.index T (.agg cs) (.int .i64 (k : Int))).run P w = .ok v w := by
  have hagg : (isAgg E).run P w = .ok false w := by
    unfold isAgg
    rw [Sem.run_bind, run_underlying hE w]
    cases d <;> simp_all
  have hpart : (part E cs k).run P w = .ok v w := by
    unfold part
    rw [Sem.run_bind, hagg]
    simp [hv]
  simp [Instr.index, asIntOf, run_underlying hu, hk, sizeOf, typeInfo, hi, hs, hpart]
theorem index_two (p q : Value) (j : Nat) (hj : j < 2) (W : World) : (Instr.index 58 (.agg #[p, q]) (.int .i64 (j : Int))).run Try.prog W = .ok (if j = 0 then p else q) W := by
  obtain ⟨i0, hi, hs⟩ := Option.map_eq_some_iff.1 yone
  refine index_flat 58 5 2 #[p, q] j _ i0 _ Try.underlying58 Try.underlying5 rfl hi hs hj ?_ W
  match j, hj with
  | 0, _ => rfl
  | 1, _ => rfl
end Go.Proofs.Ytmfpdbmohebodaa
