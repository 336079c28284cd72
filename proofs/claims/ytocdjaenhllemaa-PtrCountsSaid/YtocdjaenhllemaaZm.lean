/-
  A map of pointers by numbers of a law's own: 'm[k]++' and 'm[k]--' where a count of 0 stays.
-/
import Derived.Test.YtocdjaenhllemaaKi
namespace Go.Proofs.Ytocdjaenhllemaa
set_option maxRecDepth 4000
open Go.RowKit Go.Maps

theorem om_lookZ {w : World} {bm K n : Nat} {D : DataW Unit} (h : OM w bm K D) (q : PtrV) (hq : D.atKey (kl q) (.lit (.int .i64 0)) = .lit (.int .i64 (n : Int))) :
    (Instr.lookup 53 (.map (some bm)) (.agg (ptrRow q).toArray) false).run Try.prog w = .ok (.int .i64 (n : Int)) w := by
  obtain ⟨c, hrun, hat, _⟩ := h.lookup_int keyed_ptr Try.underlying53 Try.underlying3 (zero_int8 w) (key_ptr q)
  rw [hq] at hat
  simp only [DataW.lit.injEq, Lit.int.injEq, true_and] at hat
  rw [hat]
  exact hrun
open Go.MapKept in
/-- 'm[k] = c', by its entry, in its parts: the entry made (or found), what is read then, what is stored. -/
theorem om_entryZ {w : World} {bm K n : Nat} {D : DataW Unit} (h : OM w bm K D) (hz : IsMap D) (q : PtrV) (hq : D.atKey (kl q) (.lit (.int .i64 0)) = .lit (.int .i64 (n : Int))) (hK : K ≤ 1000000) (c : Int) (c0 : 0 ≤ c) (c1 : c ≤ 1000000000) :
    ∃ (v0 : Value) (st : Nat) (o1 : Obj), (Instr.mapEntry 53 (.map (some bm)) (.agg (ptrRow q).toArray)).run Try.prog w = .ok (.tuple #[v0, goInt st]) (ChangeMaps.setBlock w bm o1) ∧
      (∀ W : World, W.heap[bm]? = some o1 → (Instr.lookup 53 (.map (some bm)) (.agg (ptrRow q).toArray) false).run Try.prog W = .ok (.int .i64 (n : Int)) W) ∧
      ∀ w2 : World, w2.heap[bm]? = some o1 → ∃ o2, (Instr.entryStore 53 (.map (some bm)) (goInt st) (.int .i64 c)).run Try.prog w2 = .ok () (ChangeMaps.setBlock w2 bm o2) ∧
        ∀ W : World, W.heap[bm]? = some o2 → OM W bm (K + 1) (D.put (kl q) (.lit (.int .i64 c))) := by
  obtain ⟨w', hrun, hown, _⟩ := om_store h hK q c c0 c1
  have hlk := om_lookZ h q hq
  obtain ⟨es, clock, hb, F, hs, hD⟩ := id h
  obtain ⟨v0, st, es1, clock1, he, _, hst⟩ := WideElems.entry_then_store law_ptr Try.underlying53 zero_int8 hb F (key_ptr q)
  refine ⟨v0, st, _, he, fun W hW => ?_, fun w2 hw2 => ?_⟩
  · rcases keyed_ptr.find w (key_ptr q) es.toList F.keys with ⟨h1, h2⟩ | ⟨j, e0, h1, h2, h3⟩
    · -- the key was not there
      have e1 : (Instr.mapEntry 53 (.map (some bm)) (.agg (ptrRow q).toArray)).run Try.prog w = .ok (.tuple #[.int .i64 0, goInt clock]) (ChangeMaps.setBlock w bm (.map (es.push ⟨.agg (ptrRow q).toArray, .int .i64 0, clock⟩) (clock + 1))) := by
        simp [Instr.mapEntry, run_underlying Try.underlying53, MapKept.run_getObj_map hb, keyed_ptr.check w false (key_ptr q), h1, MapKept.run_setObj_map _ hb, Result.andThen, ChangeMaps.setBlock]
      rw [e1] at he
      have e2 := (Result.ok.inj he).2
      have e3 := congrArg (fun W : World => W.heap[bm]?) e2
      rw [ChangeMaps.heap_setBlock_same hb, ChangeMaps.heap_setBlock_same hb] at e3
      obtain ⟨w9, hr9, ho9, _⟩ := om_store h hK q 0 (by omega) (by omega)
      have e4 : (Instr.mapUpdate 53 (.map (some bm)) (.agg (ptrRow q).toArray) (.int .i64 0)).run Try.prog w = .ok () (ChangeMaps.setBlock w bm (.map (es.push ⟨.agg (ptrRow q).toArray, .int .i64 0, clock⟩) (clock + 1))) := by
        simp [Instr.mapUpdate, run_underlying Try.underlying53, MapKept.run_getObj_map hb, keyed_ptr.check w false (key_ptr q), h1, MapKept.run_setObj_map _ hb, Result.andThen, ChangeMaps.setBlock]
      rw [hr9] at e4
      have e5 := (Result.ok.inj e4).2
      have oW : OM W bm (K + 1) (D.put (kl q) (.lit (.int .i64 0))) := om_move ho9 (by rw [hW, ← e3, e5, ChangeMaps.heap_setBlock_same hb])
      obtain ⟨c, hrun2, hat, _⟩ := oW.lookup_int keyed_ptr Try.underlying53 Try.underlying3 (zero_int8 W) (key_ptr q)
      rw [Maps.atKey_put_same hz (kl_key q)] at hat
      simp only [DataW.lit.injEq, Lit.int.injEq, true_and] at hat
      have hc0 : (n : Int) = 0 := by
        rcases Maps.fit_look false keyed_ptr Try.underlying53 (zero_int8 w) hb F (key_ptr q) with ⟨_, _, ha⟩ | ⟨e0, _, hm0, hk0, _⟩
        · have h5 := ha (.lit (.int .i64 0))
          rw [← hD, hq] at h5
          simpa using h5
        · exact absurd hk0 (h2 e0 hm0)
      rw [hc0, hat]
      exact hrun2
    · -- it was
      have hj : es[j]? = some e0 := by simpa using h2
      have hsame : es.modify j (fun e => { e with key := .agg (ptrRow q).toArray }) = es := by
        apply Array.ext'
        rw [Array.toList_modify, ChangeMaps.modify_eq_set _ _ _ _ h2]
        have : ({ e0 with key := .agg (ptrRow q).toArray } : MapEntry) = e0 := by rw [← h3]
        rw [this]
        exact WideElems.set_self _ _ _ h2
      have e1 : (Instr.mapEntry 53 (.map (some bm)) (.agg (ptrRow q).toArray)).run Try.prog w = .ok (.tuple #[e0.val, goInt e0.born]) (ChangeMaps.setBlock w bm (.map es clock)) := by
        simp [Instr.mapEntry, run_underlying Try.underlying53, MapKept.run_getObj_map hb, keyed_ptr.check w false (key_ptr q), h1, hj, h3, keyed_ptr.stays w (key_ptr q), hsame, MapKept.run_setObj_map _ hb, Result.andThen, ChangeMaps.setBlock]
      rw [e1] at he
      have e2 := (Result.ok.inj he).2
      have e3 := congrArg (fun W : World => W.heap[bm]?) e2
      rw [ChangeMaps.heap_setBlock_same hb, ChangeMaps.heap_setBlock_same hb] at e3
      exact om_lookZ (om_move h (by rw [hW, ← e3, hb])) q hq
  · obtain ⟨es', clock', h1, h2⟩ := hst w2 (.int .i64 c) hw2
    refine ⟨_, h1, fun W hW => om_move hown ?_⟩
    rw [hrun] at h2
    rw [hW, (Result.ok.inj h2).2, ChangeMaps.heap_setBlock_same hb]
/-- The map has the pointers of A, each with how often it stands in L. -/
def MapZ (D : DataW Unit) (A L : List PtrV) : Prop :=
  IsMap D ∧ ∀ q : PtrV, has D (kl q) = decide (q ∈ A) ∧ D.atKey (kl q) (.lit (.int .i64 0)) = .lit (.int .i64 (L.count q : Int))
theorem mapZ_nil : MapZ (.map []) [] [] := ⟨⟨[], rfl⟩, fun _ => ⟨rfl, rfl⟩⟩
theorem mapZ_put {D : DataW Unit} {A L A' L' : List PtrV} (h : MapZ D A L) (q : PtrV) (hA : ∀ p, p ∈ A' ↔ p ∈ A ∨ p = q) (hL : ∀ p, p ≠ q → L'.count p = L.count p) : MapZ (D.put (kl q) (.lit (.int .i64 (L'.count q : Int)))) A' L' := by
  refine ⟨h.1.put _ _, fun p => ?_⟩
  by_cases e : p = q
  · subst e
    rw [Maps.has_put_same h.1 (kl_key p), Maps.atKey_put_same h.1 (kl_key p)]
    exact ⟨by symm; rw [decide_eq_true_iff, hA]; exact .inr rfl, rfl⟩
  · rw [Maps.has_put_other (kl_ne e), Maps.atKey_put_other (kl_ne e), (h.2 p).1, (h.2 p).2, hL p e]
    refine ⟨?_, rfl⟩
    rw [decide_eq_decide, hA]
    simp [e]
end Go.Proofs.Ytocdjaenhllemaa
