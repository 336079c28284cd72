/-
  Layer 11's laws: a map of addresses of a law's own.
-/
import Derived.Test.YtpeemnkhcgapnaaDoorVh
import Derived.Test.YtpeemnkhcgapnaaDoorBy
import Derived.Maps.OwnSet
import Derived.Maps.AppendAt
namespace Go.Proofs.YtpeemnkhcgapnaaDoor
set_option maxRecDepth 4000
set_option linter.unusedVariables false
open Go.ChangeShapes Go.WideShapes Go.ChangeAt Go.RowKit
open Go.Maps (Keyed)

def ku (a : Nat) : Lit := .int .u32 (a : Int)
theorem ku_ne {a b : Nat} (h : a ≠ b) : ku a ≠ ku b := fun e => by unfold ku at e; injection e with _ e; omega
theorem keyof_u32 (a : Nat) (h : a < 4294967296) : keyOf Tryd.prog 31 (.int .u32 (a : Int)) = some (ku a) := Maps.keyOf_int_mk Tryd.underlying31 (by
  simp [Lit.wf, IntKind.min, IntKind.max, IntKind.bits, IntKind.signed]; omega)
theorem bool_inv11 {v : Value} {x : Bool} {ps : List MemPlace} (h : plainElem (H := Unit) Tryd.prog 4 v = some (.lit (.bool x), ps)) : v = .bool x := by
  unfold plainElem at h
  rw [Tryd.underlying4] at h
  cases v <;> simp at h ⊢
  exact h.1
/-- A map in block b that tells just these addresses; c puts so far at most, d keys. -/
structure UM (w : World) (b c d : Nat) (L : List Nat) : Prop where
  map : ∃ D, w.ownsMap Tryd.prog 31 (plainElem (H := Unit) Tryd.prog 4) b c D ∧ Maps.IsMap D ∧ Maps.Tidy D ∧ Maps.size D = d ∧ ∀ a : Nat, Maps.has D (ku a) = decide (a ∈ L) ∧ D.atKey (ku a) (.lit (.bool false)) = .lit (.bool (decide (a ∈ L)))
theorem UM.lt {w : World} {b c d : Nat} {L : List Nat} (h : UM w b c d L) : b < w.heap.size := by obtain ⟨D, h1, _⟩ := h.map; exact h1.lt
theorem UM.move {w w' : World} {b c d : Nat} {L : List Nat} (h : UM w b c d L) (e : w'.heap[b]? = w.heap[b]?) : UM w' b c d L := by
  obtain ⟨D, ⟨es, clock, hb, F, hs, hD⟩, h2⟩ := h.map
  exact ⟨D, ⟨es, clock, e.trans hb, F, hs, hD⟩, h2⟩
theorem UM.below {w w' : World} {b c d : Nat} {L : List Nat} (h : UM w b c d L) (q : Below w.heap.size w w') : UM w' b c d L := h.move (q.block b h.lt)
theorem UM.touch {w w' : World} {b c d : Nat} {L : List Nat} {m : List Nat} (h : UM w b c d L) (q : Touch m w w') (hb : b ∉ m) : UM w' b c d L := h.move (q.block b h.lt hb)
theorem um_made (w : World) : UM (w.alloc (.map #[] 0)) w.heap.size 0 0 [] :=
  ⟨_, World.ownsMap_made w _ _ _, Maps.isMap_empty, Maps.tidy_empty, rfl, fun a => ⟨rfl, rfl⟩⟩
theorem um_look {w : World} {b c d : Nat} {L : List Nat} (h : UM w b c d L) (a : Nat) (ha : a < 4294967296) :
    (Instr.lookup 50 (.map (some b)) (.int .u32 (a : Int)) false).run Tryd.prog w = .ok (.bool (decide (a ∈ L))) w := by
  obtain ⟨D, h1, _, _, _, h5⟩ := h.map
  obtain ⟨v, ps, hr, hv⟩ := h1.lookup (t := 50) (e := 4) (Maps.int_keyed Tryd.underlying31) Tryd.underlying50 (z := .bool false) (by kernel_rfl) (plainElem_bool (H := Unit) Tryd.underlying4 false) (keyof_u32 a ha)
  rw [(h5 a).2] at hv
  rw [hr, bool_inv11 hv]
theorem um_len {w : World} {b c d : Nat} {L : List Nat} (h : UM w b c d L) (ty : TypeId) : (Builtin.len_ #[50] ty #[.map (some b)]).run Tryd.prog w = .ok (.int .i64 (d : Int)) w := by
  obtain ⟨D, h1, _, _, h4, _⟩ := h.map
  rw [World.ownsMap.len h1 Tryd.underlying50 ty, h4]
theorem um_put {w : World} {b c d : Nat} {L : List Nat} (h : UM w b c d L) (hc : c < 1000000) (a : Nat) (ha : a < 4294967296) :
    ∃ w', (Instr.mapUpdate 50 (.map (some b)) (.int .u32 (a : Int)) (.bool true)).run Tryd.prog w = .ok () w' ∧ UM w' b (c + 1) (if a ∈ L then d else d + 1) (L ++ [a]) ∧ Touch [b] w w' := by
  obtain ⟨D, h1, h2, h3, h4, h5⟩ := h.map
  obtain ⟨w', hr, ho, hg⟩ := h1.update (t := 50) (e := 4) (Maps.int_keyed Tryd.underlying31) Tryd.underlying50 (by unfold maxLen; omega) (keyof_u32 a ha) (plainElem_bool (H := Unit) Tryd.underlying4 true)
  refine ⟨w', hr, ⟨_, ho, h2.put _ _, h3.put (by trivial) _, ?_, fun x => ?_⟩, ⟨hg.os, hg.tape, hg.output, hg.size, fun k h1 h2 => hg.block k h1 (by simpa using h2)⟩⟩
  · rw [Maps.size_put h3, (h5 a).1, h4]
    by_cases e : a ∈ L <;> simp [e]
  · by_cases e : x = a
    · subst e
      rw [Maps.has_put_same h2 (by trivial), Maps.atKey_put_same h2 (by trivial)]
      simp
    · rw [Maps.has_put_other (ku_ne e), Maps.atKey_put_other (ku_ne e), (h5 x).1, (h5 x).2]
      simp [e]
/-! ### which of them may be set -/
def inB (n : Nat) (l : List Nat) : Bool := l.all fun x => decide (2 ≤ x) && decide (x < n)
theorem inB_iff (n : Nat) (l : List Nat) : inB n l = true ↔ allIn n l := by simp [inB, allIn]
theorem inB_nil (n : Nat) : inB n [] = true := rfl
theorem take_next11 (l : List Nat) (i : Nat) (h : i < l.length) : l.take (i + 1) = l.take i ++ [l.getD i 0] := by
  rw [List.take_succ_eq_append_getElem h]; simp [List.getD, h]
theorem inB_next (n : Nat) (l : List Nat) (x : Nat) : inB n (l ++ [x]) = (inB n l && (decide (2 ≤ x) && decide (x < n))) := by simp [inB, List.all_append]
theorem cnt_allF (n : Nat) (h : 2 ≤ n) : cnt (allF n) n = n - 2 := by
  have h1 := tkn_count (allF n) (fun x hx => by unfold allF at hx; simp at hx; exact hx.1) n h
  have h2 : tkn (allF n) n = [] := by
    apply List.eq_nil_iff_forall_not_mem.2
    intro x hx
    obtain ⟨q1, q2, q3⟩ := (tkn_mem _ _ _).1 hx
    unfold allF at q3
    simp [q1, q2] at q3
  rw [h2] at h1
  simpa using h1
theorem minF_add (n : Nat) (l : List Nat) (x : Nat) : minF n (l ++ [x]) = updF (minF n l) x false := by
  funext y
  unfold minF updF
  by_cases e : y = x
  · subst e; simp
  · simp [e]
theorem cnt_min (n : Nat) (l : List Nat) (x d : Nat) (h0 : 2 ≤ x) (h1 : x < n) (h : d + cnt (minF n l) n = n - 2) : (if x ∈ l then d else d + 1) + cnt (minF n (l ++ [x])) n = n - 2 := by
  rw [minF_add]
  by_cases e : x ∈ l
  · rw [if_pos e, updF_self _ _ _ (show minF n l x = false by unfold minF; simp [e])]; exact h
  · rw [if_neg e]
    have := cnt_drop (F := minF n l) h1 (show minF n l x = true by unfold minF allF; simp [e, h0, h1])
    omega
theorem has_min {n : Nat} {l : List Nat} (h : allIn n l) (a : Nat) : hasA n (minF n l) a = decide (a ∈ l) := by
  unfold hasA minF allF
  by_cases e : a ∈ l
  · have := h a e
    simp [e, this.1, this.2]
  · simp only [e, decide_false, Bool.not_false, Bool.and_true]
    cases decide (2 ≤ a) <;> cases decide (a < n) <;> rfl
theorem cnt_pos {F : Nat → Bool} {n a : Nat} (h1 : a < n) (h : F a = true) : 0 < cnt F n := by
  have := cnt_drop h1 h; omega
end Go.Proofs.YtpeemnkhcgapnaaDoor
