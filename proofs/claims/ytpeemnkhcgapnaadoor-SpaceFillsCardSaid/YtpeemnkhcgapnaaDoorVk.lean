/-
  Layer 11's laws: a range over a law's own map of addresses; numbers of 16 bits that come in.
-/
import Derived.Test.YtpeemnkhcgapnaaDoorVj
import Derived.Maps.RangeWalk
import Derived.Deep.QuietTactic
namespace Go.Proofs.YtpeemnkhcgapnaaDoor
set_option maxRecDepth 4000
set_option linter.unusedVariables false
open Go.ChangeShapes Go.WideShapes Go.ChangeAt Go.RowKit
open Go.Maps (Keyed)

/-! ### numbers of 16 bits -/
structure UH (w : World) (a : Option Addr) (n c : Nat) (l : List Nat) : Prop where
  len : l.length = n
  small : ∀ x ∈ l, x < 65536
  cells : l = [] ∨ ∃ b off, a = some ⟨b, off, none⟩ ∧ ∀ i, i < n → w.cell? ⟨b, off + i, none⟩ = some (.int .u16 (l.getD i 0 : Nat))
theorem UH.below {w w' : World} {a : Option Addr} {n c : Nat} {l : List Nat} (h : UH w a n c l) (q : Below w.heap.size w w') : UH w' a n c l :=
  ⟨h.len, h.small, h.cells.imp id fun ⟨b, off, ha, hc⟩ => ⟨b, off, ha, fun i hi => (q.cell (block_lt_of_cell (hc i hi))).trans (hc i hi)⟩⟩
theorem UH.at {w : World} {a : Option Addr} {n c i : Nat} {l : List Nat} (h : UH w a n c l) (hi : i < n) : ∃ b off, a = some ⟨b, off, none⟩ ∧ w.cell? ⟨b, off + i, none⟩ = some (.int .u16 (l.getD i 0 : Nat)) := by
  rcases h.cells with h0 | ⟨b, off, ha, hc⟩
  · have := h.len; rw [h0] at this; simp at this; omega
  · exact ⟨b, off, ha, hc i hi⟩
theorem uh_slr {w : World} {x : List Int} {a : Option Addr} {n c : Nat} (h : SlR (RInt .u16 0 65535) 1 w x a n c) : UH w a n c (x.map Int.toNat) := by
  have hs : ∀ (i : Nat) (hi : i < x.length), 0 ≤ x[i] ∧ x[i] ≤ 65535 := fun i hi => by
    obtain ⟨b, off, cs, _, h2, _⟩ := h.here i hi
    exact h2.2
  refine ⟨by rw [List.length_map]; exact h.len, fun y hy => ?_, ?_⟩
  · obtain ⟨z, hz, rfl⟩ := List.mem_map.1 hy
    obtain ⟨i, hi, rfl⟩ := List.getElem_of_mem hz
    have := hs i hi
    omega
  · by_cases h0 : n = 0
    · left
      have := h.len
      rw [List.map_eq_nil_iff]
      exact List.eq_nil_of_length_eq_zero (by omega)
    · right
      obtain ⟨b, off, cs, h1, _⟩ := h.here 0 (by rw [h.len]; omega)
      refine ⟨b, off, h1, fun i hi => ?_⟩
      have hix : i < x.length := by rw [h.len]; exact hi
      obtain ⟨b', off', cs', h1', h2', _, h5'⟩ := h.here i hix
      rw [h1] at h1'
      injection h1' with e
      injection e with e1 e2
      subst e1 e2
      have hc := h5' 0 (.int .u16 x[i]) (by rw [h2'.1]; rfl)
      rw [Nat.mul_one, Nat.add_zero] at hc
      rw [hc]
      have e : (x.map Int.toNat).getD i 0 = x[i].toNat := by simp [List.getD, hix]
      rw [e]
      have := hs i hix
      congr 2
      omega
theorem opn_u16s : Opn 49 (RSl (RInt .u16 0 65535) 1) := opn_slice 1 Tryd.underlying49 (by kernel_rfl) (by decide) (of_decide_eq_true (by kernel_rfl)) (opn_int .u16 _ _ Tryd.underlying48 wf_u16)
theorem par_u16s {H : Type} {enc : TypeId × Value → H} {W : World} {base : Nat} {v : Value} {d : DataW H} {p : List MemPlace} {ts : List TypeId} {ds : List (DataW H)} {j : Nat} (hok : Value.okWide Tryd.prog W .any base 49 v) (h : ∃ fuel, DataW.trod enc Tryd.prog W 0 (fun _ => true) true fuel 49 v.cells.toList = some (d, p))
    (hsz : (DataW.weightsEach Tryd.prog ts ds).all (· ≤ reachBytes) = true) (ht : ts[j]? = some 49) (hd : ds[j]? = some d) :
    ∃ (l : List Nat) (a : Option Addr) (n c : Nat), v = .slice a n c ∧ UH W a n c l ∧ n ≤ c ∧ n ≤ 140737488351232 := by
  obtain ⟨x, a, n, c, rfl, hs⟩ := par_slice Tryd.underlying49 opn_u16s hok h hsz ht hd
  exact ⟨_, a, n, c, rfl, uh_slr hs, hs.cap, by have := hs.big; have := hs.cap; omega⟩
theorem index_u16 (b off len cap i : Nat) (h : i < len) (W : World) : (Instr.indexAt 49 (.slice (some ⟨b, off, none⟩) len cap) (.int .i64 (i : Int))).run Tryd.prog W = .ok (.pointer (some ⟨b, off + i, none⟩)) W := by
  obtain ⟨i0, hi, hs⟩ := Option.map_eq_some_iff.1 (show (Tryd.prog.info? 48).map (·.size) = some 1 by kernel_rfl)
  simp [Instr.indexAt, asIntOf, run_underlying Tryd.underlying49, sizeOf, typeInfo, hi, hs, h, Addr.add_mid]

/-! ### what is there, one by one -/
def fromF (i n : Nat) : Nat → Bool := fun a => decide (i ≤ a) && decide (a < n)
theorem allF_from (n : Nat) : allF n = fromF 2 n := rfl
theorem fromF_next (i n : Nat) (h : i < n) : updF (fromF i n) i false = fromF (i + 1) n := by
  funext x; unfold updF fromF
  by_cases e : x = i
  · subst e; rw [if_pos rfl, decide_eq_false (show ¬ x + 1 ≤ x by omega)]; rfl
  · rw [if_neg e]
    have : decide (i + 1 ≤ x) = decide (i ≤ x) := decide_eq_decide.2 (by omega)
    rw [this]
theorem fromF_low (i n x : Nat) (h : x < i) : fromF i n x = false := by unfold fromF; rw [decide_eq_false (by omega)]; rfl
theorem fromF_at (i n : Nat) (h : i < n) : fromF i n i = true := by unfold fromF; simp [h]
theorem fromF_end (n a : Nat) : fromF n n a = false := by
  unfold fromF
  by_cases h : n ≤ a
  · rw [decide_eq_false (show ¬ a < n by omega), Bool.and_false]
  · rw [decide_eq_false h]; rfl
theorem nodup_cnt (n : Nat) : ∀ (S : List Nat) (F : Nat → Bool), S.Nodup → (∀ a ∈ S, F a = true ∧ a < n) → S.length ≤ cnt F n
  | [], _, _, _ => Nat.zero_le _
  | x :: r, F, hn, h => by
    obtain ⟨h1, h2⟩ := List.nodup_cons.1 hn
    have hx := h x (List.mem_cons_self ..)
    have ih := nodup_cnt n r (updF F x false) h2 (fun a ha => by
      rw [updF_other F x a false (by intro e; subst e; exact h1 ha)]
      exact h a (List.mem_cons_of_mem _ ha))
    have := cnt_drop hx.2 hx.1
    rw [List.length_cons]; omega
theorem cnt_cover (n : Nat) : ∀ (S : List Nat) (F : Nat → Bool), (∀ a, a < n → F a = true → a ∈ S) → cnt F n ≤ S.length
  | [], F, h => by
    rw [cnt_none F n (fun j hj => by
      cases hF : F j with
      | false => rfl
      | true => exact absurd (h j hj hF) (by simp))]
    exact Nat.zero_le _
  | x :: r, F, h => by
    have ih := cnt_cover n r (updF F x false) (fun a ha hF => by
      by_cases e : a = x
      · subst e; rw [updF_same] at hF; cases hF
      · rw [updF_other _ _ _ _ e] at hF
        exact (List.mem_cons.1 (h a ha hF)).resolve_left e)
    have hu := cnt_upd F x false n
    rw [List.length_cons]
    simp only [Bool.false_eq_true, and_false, if_false, Nat.add_zero] at hu
    split at hu <;> omega

/-! ### the map, ranged over -/
/-- What a map that tells just these addresses is. -/
structure UD (D : DataW Unit) (d : Nat) (L : List Nat) : Prop where
  isMap : Maps.IsMap D
  tidy : Maps.Tidy D
  size : Maps.size D = d
  tells : ∀ a : Nat, Maps.has D (ku a) = decide (a ∈ L) ∧ D.atKey (ku a) (.lit (.bool false)) = .lit (.bool (decide (a ∈ L)))
theorem um_open {w : World} {b c d : Nat} {L : List Nat} (h : UM w b c d L) : ∃ D, w.ownsMap Tryd.prog 31 (plainElem (H := Unit) Tryd.prog 4) b c D ∧ UD D d L := by
  obtain ⟨D, h1, h2, h3, h4, h5⟩ := h.map
  exact ⟨D, h1, h2, h3, h4, h5⟩
theorem um_mk {w : World} {b c d : Nat} {L : List Nat} {D : DataW Unit} (h : w.ownsMap Tryd.prog 31 (plainElem (H := Unit) Tryd.prog 4) b c D) (u : UD D d L) : UM w b c d L := ⟨D, h, u.isMap, u.tidy, u.size, u.tells⟩
abbrev RG (w : World) (b r n : Nat) (D : DataW Unit) (left : Lit → Bool) (cn : Nat) : Prop := w.ranges Tryd.prog 31 (plainElem (H := Unit) Tryd.prog 4) b r n D left cn
/-- No key twice; a key is on the list just where the map has it and it is no longer to come. -/
def CollU (D0 : DataW Unit) (left : Lit → Bool) (ss : List Nat) : Prop := ss.Nodup ∧ ∀ q, q ∈ ss ↔ (Maps.has D0 (ku q) = true ∧ left (ku q) = false)
theorem CollU.start (D0 : DataW Unit) : CollU D0 (Maps.has D0) [] := ⟨List.nodup_nil, fun x => by cases Maps.has D0 (ku x) <;> simp⟩
theorem CollU.step {D0 : DataW Unit} {left : Lit → Bool} {ss : List Nat} (h : CollU D0 left ss) {x : Nat} (hlk : left (ku x) = true) (hhas : Maps.has D0 (ku x) = true) : x ∉ ss ∧ CollU D0 (fun z => left z && !z.sameKey (ku x)) (ss ++ [x]) := by
  have hnx : x ∉ ss := fun hx => by
    have := ((h.2 x).1 hx).2
    rw [hlk] at this
    cases this
  refine ⟨hnx, List.nodup_append.2 ⟨h.1, by simp, fun a ha b hb e => ?_⟩, fun q => ?_⟩
  · obtain rfl : b = x := by simpa using hb
    rw [e] at ha
    exact hnx ha
  · rw [List.mem_append, List.mem_singleton, h.2 q]
    show _ ↔ _ ∧ (left (ku q) && !(ku q).sameKey (ku x)) = false
    by_cases e : q = x
    · subst e
      rw [WideAt.sameKey_self (show WideAt.IsKeyLit (ku q) from trivial)]
      simp [hhas]
    · have hs : (ku q).sameKey (ku x) = false := by
        cases hs : (ku q).sameKey (ku x) with
        | false => rfl
        | true => exact absurd (WideAt.sameKey_eq hs) (ku_ne e)
      rw [hs]
      simp [e]
theorem keyed_u32 : Keyed Tryd.prog 31 := Maps.int_keyed Tryd.underlying31
theorem keyof_inv {key : Value} {kl : Lit} (h : keyOf Tryd.prog 31 key = some kl) : ∃ a : Nat, key = .int .u32 (a : Int) ∧ kl = ku a ∧ a < 4294967296 := by
  obtain ⟨x, rfl, rfl, hw⟩ := Maps.keyOf_int_inv Tryd.underlying31 h
  have := wf_u32 x hw
  exact ⟨x.toNat, by rw [Int.toNat_of_nonneg this.1], by unfold ku; rw [Int.toNat_of_nonneg this.1], by omega⟩
theorem bool_shape {v : Value} {y : DataW Unit × List MemPlace} (h : plainElem (H := Unit) Tryd.prog 4 v = some y) : ∃ c : Bool, v = .bool c := by
  unfold plainElem at h
  rw [Tryd.underlying4] at h
  cases v <;> simp at h ⊢
theorem grown_of_touch {w w' : World} {S : Nat} (t : Touch [S] w w') : w.grownBy w' (some S) :=
  ⟨t.os, t.tape, t.output, t.size, fun k hk hn => t.block k hk (by intro e; simp at e; exact hn (by rw [e]))⟩
end Go.Proofs.YtpeemnkhcgapnaaDoor
