/-
  A map of maps that a law keeps beside its device; what a crash leaves of each sector.
-/
import Derived.Test.YtmfpdbmohebodaaPRow
namespace Go.Proofs.Ytmfpdbmohebodaa
open Go.RowKit
open Go.Maps (Keyed)

/-- How an element that is a map reads: by its block. -/
def Rm (v : Value) : Option (DataW Unit × List MemPlace) :=
  match v with
  | .map none => some (.lit (.bool false), [])
  | .map (some b) => some (.lit (.int .i64 (b : Int)), [])
  | _ => none
def tdat : Option Nat → DataW Unit
  | none => .lit (.bool false)
  | some b => .lit (.int .i64 (b : Int))
theorem rm_inv {v : Value} {t : Option Nat} {ps : List MemPlace} (h : Rm v = some (tdat t, ps)) : v = .map t := by
  unfold Rm at h
  split at h
  · cases t with
    | none => rfl
    | some b => simp [tdat] at h
  · rename_i b
    cases t with
    | none => simp [tdat] at h
    | some b' =>
      simp only [tdat, Option.some.injEq, Prod.mk.injEq, DataW.lit.injEq, Lit.int.injEq, true_and] at h
      have : b = b' := by omega
      rw [this]
  · cases h
theorem bool_inv {v : Value} {x : Bool} {ps : List MemPlace} (h : plainElem (H := Unit) Try.prog 4 v = some (.lit (.bool x), ps)) : v = .bool x := by
  unfold plainElem at h
  rw [Try.underlying4] at h
  cases v <;> simp at h ⊢
  exact h.1
theorem map_keep {w w' : World} {k : TypeId} {R : Value → Option (DataW Unit × List MemPlace)} {b n : Nat} {D : DataW Unit} (h : w.ownsMap Try.prog k R b n D) (e : w'.heap[b]? = w.heap[b]?) : w'.ownsMap Try.prog k R b n D := by
  obtain ⟨es, clock, hb, F, hs, hD⟩ := h
  exact ⟨es, clock, e.trans hb, F, hs, hD⟩
/-- The map of maps: of each sector no map yet, or the one in block T a, that holds S a. -/
structure MayR (W : World) (s : Nat) (K : List Nat) (mb c : Nat) (T : Nat → Option Nat) (S : Nat → DataW Unit) : Prop where
  map : ∃ Dm, W.ownsMap Try.prog 32 Rm mb c Dm ∧ Maps.IsMap Dm ∧ ∀ a : Nat, a < 16 → Dm.atKey (.int .u32 (a : Int)) (.lit (.bool false)) = tdat (T a)
  inn : ∀ a b, a < 16 → T a = some b → b ∈ K ∧ b ≠ mb ∧ s ≤ b ∧ W.ownsMap Try.prog 5 (plainElem (H := Unit) Try.prog 4) b c (S a) ∧ Maps.IsMap (S a)
  inj : ∀ a a' b, a < 16 → a' < 16 → T a = some b → T a' = some b → a = a'
theorem MayR.stay {W W' : World} {s mb c : Nat} {K : List Nat} {T : Nat → Option Nat} {S : Nat → DataW Unit} (h : MayR W s K mb c T S) (q : Stay K W W') (hm : mb ∈ K) : MayR W' s K mb c T S := by
  obtain ⟨⟨Dm, h1, h2, h3⟩, hi, hj⟩ := h
  exact ⟨⟨Dm, map_keep h1 (q mb hm), h2, h3⟩, fun a b ha hb => by
    obtain ⟨q1, q2, q3, q4, q5⟩ := hi a b ha hb
    exact ⟨q1, q2, q3, map_keep q4 (q b q1), q5⟩, hj⟩
theorem MayR.more {W : World} {s mb c : Nat} {K K' : List Nat} {T : Nat → Option Nat} {S : Nat → DataW Unit} (h : MayR W s K mb c T S) (q : ∀ k ∈ K, k ∈ K') : MayR W s K' mb c T S :=
  ⟨h.map, fun a b ha hb => by obtain ⟨q1, q2⟩ := h.inn a b ha hb; exact ⟨q b q1, q2⟩, h.inj⟩
theorem may_made (w : World) (s : Nat) (K : List Nat) : MayR (w.alloc (.map #[] 0)) s K w.heap.size 0 (fun _ => none) (fun _ => .map []) :=
  ⟨⟨_, World.ownsMap_made w _ _ _, Maps.isMap_empty, fun a _ => rfl⟩, fun a b _ h => by simp at h, fun a a' b _ _ h => by simp at h⟩
theorem key_u8 (x : BitVec 8) : keyOf Try.prog 5 (.int .u8 (yv x)) = some (.int .u8 (yv x)) := Maps.keyOf_int_mk Try.underlying5 (by
  have h := x.isLt
  simp [Lit.wf, IntKind.min, IntKind.max, IntKind.bits, IntKind.signed, yv_nat]; omega)
theorem may_look {W : World} {s mb c : Nat} {K : List Nat} {T : Nat → Option Nat} {S : Nat → DataW Unit} (h : MayR W s K mb c T S) (a : Nat) (ha : a < 16) :
    (Instr.lookup 56 (.map (some mb)) (.int .u32 (a : Int)) false).run Try.prog W = .ok (.map (T a)) W := by
  obtain ⟨Dm, h1, _, h3⟩ := h.map
  obtain ⟨v, ps, hr, hv⟩ := h1.lookup (t := 56) (e := 57) (Maps.int_keyed Try.underlying32) Try.underlying56 (z := .map none) (by kernel_rfl) (zd := .lit (.bool false)) (zp := []) rfl (key_u32 a (by omega))
  rw [h3 a ha] at hv
  rw [hr, rm_inv hv]
theorem may_new {W : World} {s mb c : Nat} {K : List Nat} {T : Nat → Option Nat} {S : Nat → DataW Unit} (h : MayR W s K mb c T S) (hs : s ≤ W.heap.size) (hK : ∀ k ∈ K, k < W.heap.size) (hc : c < 1000000) (a : Nat) (ha : a < 16) :
    ∃ W', (Instr.mapUpdate 56 (.map (some mb)) (.int .u32 (a : Int)) (.map (some W.heap.size))).run Try.prog (W.alloc (.map #[] 0)) = .ok () W' ∧
      MayR W' s (W.heap.size :: K) mb (c + 1) (fun j => if j = a then some W.heap.size else T j) (fun j => if j = a then .map [] else S j) ∧ Touch [mb] W W' ∧ W.heap.size < W'.heap.size := by
  obtain ⟨Dm, h1, h2, h3⟩ := h.map
  have hmb : mb < W.heap.size := h1.lt
  have hA : Below W.heap.size W (W.alloc (.map #[] 0)) := (Below.refl _ _).alloc (Nat.le_refl _) _
  obtain ⟨W', hr, ho, hg⟩ := (h1.alloc (.map #[] 0)).update (t := 56) (e := 57) (Maps.int_keyed Try.underlying32) Try.underlying56 (by unfold maxLen; omega) (key_u32 a (by omega)) (val := .map (some W.heap.size)) (d := .lit (.int .i64 (W.heap.size : Int))) (ps := []) rfl
  have hsz : (W.alloc (.map #[] 0)).heap.size = W.heap.size + 1 := by simp
  have hk : ∀ k, k < W.heap.size + 1 → k ≠ mb → W'.heap[k]? = (W.alloc (.map #[] 0)).heap[k]? := fun k hk hne => hg.block k (by omega) (by simpa using hne)
  have hT : Touch [mb] W W' := (Touch.of_below hA).trans ⟨hg.os, hg.tape, hg.output, hg.size, fun k h1 h2 => hk k (by omega) (by simpa using h2)⟩
  refine ⟨W', hr, ⟨⟨_, ho, h2.put _ _, fun j hj => ?_⟩, fun j b hj hb => ?_, fun j j' b hj hj' hb hb' => ?_⟩, hT, by have := hg.size; omega⟩
  · by_cases e : j = a
    · subst e
      rw [if_pos rfl, Maps.atKey_put_same h2 (by trivial)]; rfl
    · rw [if_neg e, Maps.atKey_put_other (by intro q; injection q with _ q; omega), h3 j hj]
  · by_cases e : j = a
    · subst e
      simp only [if_pos, Option.some.injEq] at hb
      subst hb
      refine ⟨by simp, by omega, hs, ?_, ?_⟩
      · rw [if_pos rfl]
        exact map_keep ((World.ownsMap_made W _ _ _).mono (Nat.zero_le _)) (hk _ (by omega) (by omega))
      · rw [if_pos rfl]; exact Maps.isMap_empty
    · simp only [if_neg e] at hb ⊢
      obtain ⟨q1, q2, q3, q4, q5⟩ := h.inn j b hj hb
      have hb' := hK b q1
      exact ⟨List.mem_cons_of_mem _ q1, q2, q3, (map_keep q4 ((hk b (by omega) q2).trans (hA.block b hb'))).mono (by omega), q5⟩
  · by_cases e : j = a <;> by_cases e' : j' = a
    · omega
    · simp only [if_pos e, if_neg e', Option.some.injEq] at hb hb'
      have := hK b (h.inn j' b hj' hb').1
      omega
    · simp only [if_neg e, if_pos e', Option.some.injEq] at hb hb'
      have := hK b (h.inn j b hj hb).1
      omega
    · simp only [if_neg e, if_neg e'] at hb hb'
      exact h.inj j j' b hj hj' hb hb'
theorem may_put {W : World} {s mb c : Nat} {K : List Nat} {T : Nat → Option Nat} {S : Nat → DataW Unit} (h : MayR W s K mb c T S) (hc : c < 1000000) (a b : Nat) (ha : a < 16) (hb : T a = some b) (x : BitVec 8) :
    ∃ W', (Instr.mapUpdate 57 (.map (some b)) (.int .u8 (yv x)) (.bool true)).run Try.prog W = .ok () W' ∧
      MayR W' s K mb (c + 1) T (fun j => if j = a then (S a).put (.int .u8 (yv x)) (.lit (.bool true)) else S j) ∧ Touch [b] W W' := by
  obtain ⟨Dm, h1, h2, h3⟩ := h.map
  obtain ⟨q1, q2, q3, q4, q5⟩ := h.inn a b ha hb
  obtain ⟨W', hr, ho, hg⟩ := q4.update (t := 57) (e := 4) (Maps.int_keyed Try.underlying5) Try.underlying57 (by unfold maxLen; omega) (key_u8 x) (plainElem_bool (H := Unit) Try.underlying4 true)
  have hk : ∀ k, k < W.heap.size → k ≠ b → W'.heap[k]? = W.heap[k]? := fun k hk hne => hg.block k hk (by simpa using hne)
  refine ⟨W', hr, ⟨⟨Dm, (map_keep h1 (hk mb h1.lt (Ne.symm q2))).mono (by omega), h2, h3⟩, fun j b' hj hb' => ?_, h.inj⟩, ⟨hg.os, hg.tape, hg.output, hg.size, fun k h1 h2 => hk k h1 (by simpa using h2)⟩⟩
  by_cases e : j = a
  · subst e
    rw [hb] at hb'
    injection hb' with e2
    subst e2
    simp only [if_pos]
    exact ⟨q1, q2, q3, ho, q5.put _ _⟩
  · simp only [if_neg e]
    obtain ⟨r1, r2, r3, r4, r5⟩ := h.inn j b' hj hb'
    have hne : b' ≠ b := fun e2 => e (h.inj j a b hj ha (e2 ▸ hb') hb)
    exact ⟨r1, r2, r3, (map_keep r4 (hk b' r4.lt hne)).mono (by omega), r5⟩
/-- Whether a byte may be. -/
def mayB (T : Nat → Option Nat) (S : Nat → DataW Unit) (a : Nat) (x : BitVec 8) : Prop := ∃ b, T a = some b ∧ (S a).atKey (.int .u8 (yv x)) (.lit (.bool false)) = .lit (.bool true)
theorem may_yes {W : World} {s mb c : Nat} {K : List Nat} {T : Nat → Option Nat} {S : Nat → DataW Unit} (h : MayR W s K mb c T S) (a : Nat) (ha : a < 16) (x : BitVec 8) (hx : mayB T S a x) :
    ∃ b, T a = some b ∧ (Instr.lookup 57 (.map (some b)) (.int .u8 (yv x)) false).run Try.prog W = .ok (.bool true) W := by
  obtain ⟨b, hb, hat⟩ := hx
  obtain ⟨q1, q2, q3, q4, q5⟩ := h.inn a b ha hb
  obtain ⟨v, ps, hr, hv⟩ := q4.lookup (t := 57) (e := 4) (Maps.int_keyed Try.underlying5) Try.underlying57 (z := .bool false) (by kernel_rfl) (plainElem_bool (H := Unit) Try.underlying4 false) (key_u8 x)
  rw [hat] at hv
  exact ⟨b, hb, by rw [hr, bool_inv hv]⟩
theorem yv_same (x y : BitVec 8) (h : yv x = yv y) : x = y := by
  rw [yv_nat, yv_nat] at h
  exact BitVec.eq_of_toNat_eq (by omega)
theorem mayB_new {T : Nat → Option Nat} {S : Nat → DataW Unit} {a n j : Nat} {x : BitVec 8} (hT : T a = none) (h : mayB T S j x) : mayB (fun j => if j = a then some n else T j) (fun j => if j = a then .map [] else S j) j x := by
  obtain ⟨b, hb, hat⟩ := h
  have e : j ≠ a := by rintro rfl; rw [hT] at hb; cases hb
  exact ⟨b, by simp only [if_neg e]; exact hb, by simp only [if_neg e]; exact hat⟩
theorem mayB_put {T : Nat → Option Nat} {S : Nat → DataW Unit} {a j : Nat} {x y : BitVec 8} (hS : Maps.IsMap (S a)) (h : mayB T S j x) : mayB T (fun j => if j = a then (S a).put (.int .u8 (yv y)) (.lit (.bool true)) else S j) j x := by
  obtain ⟨b, hb, hat⟩ := h
  refine ⟨b, hb, ?_⟩
  by_cases e : j = a
  · subst e
    simp only [if_pos]
    by_cases e2 : x = y
    · subst e2
      exact Maps.atKey_put_same hS (by trivial) _ _
    · rw [Maps.atKey_put_other (by intro q; injection q with _ q; exact e2 (yv_same x y q))]; exact hat
  · simp only [if_neg e]; exact hat
theorem mayB_it {T : Nat → Option Nat} {S : Nat → DataW Unit} {a b : Nat} {y : BitVec 8} (hS : Maps.IsMap (S a)) (hb : T a = some b) : mayB T (fun j => if j = a then (S a).put (.int .u8 (yv y)) (.lit (.bool true)) else S j) a y :=
  ⟨b, hb, by simp only [if_pos]; exact Maps.atKey_put_same hS (by trivial) _ _⟩
/-- All that lies there may. -/
def GoodF (F : List (BitVec 8)) (M : Nat → BitVec 8 → Prop) : Prop := F.length = 16 * 512 ∧ ∀ a, a < 16 → ∀ k, k < 512 → M a ((secY F a).getD k 0)
theorem good_put {F l : List (BitVec 8)} {M : Nat → BitVec 8 → Prop} {p : Nat} (h : GoodF F M) (hp : p < 16) (hl : l.length ≤ 512) (hM : ∀ k, k < l.length → M p (l.getD k 0)) : GoodF (putL F (p * 512) l) M := by
  have hle : p * 512 + l.length ≤ F.length := by rw [h.1]; omega
  refine ⟨by rw [putL_length _ _ _ hle]; exact h.1, fun a ha k hk => ?_⟩
  have e : (secY (putL F (p * 512) l) a).getD k 0 = if p * 512 ≤ a * 512 + k ∧ a * 512 + k < p * 512 + l.length then l.getD (a * 512 + k - p * 512) 0 else (secY F a).getD k 0 := by
    rw [List.getD_eq_getElem?_getD, secY_at _ _ _ hk, putL_get _ _ _ _ hle, List.getD_eq_getElem?_getD, List.getD_eq_getElem?_getD, secY_at _ _ _ hk]
    split <;> rfl
  rw [e]
  split
  · rename_i hc
    have : a = p := by omega
    subst this
    exact hM _ (by omega)
  · exact h.2 a ha k hk
theorem good_crash {F : List (BitVec 8)} {M : Nat → BitVec 8 → Prop} {ws : List (Nat × List (BitVec 8))} (keep : Nat) (torn : Int) (h : GoodF F M) (hw : ∀ p ∈ ws, p.1 < 16 ∧ p.2.length = 512 ∧ ∀ k, k < 512 → M p.1 (p.2.getD k 0)) :
    ∀ i, i ≤ ws.length → GoodF (crashM keep torn F ws i) M
  | 0, _ => h
  | i + 1, hi => by
    have ih := good_crash keep torn h hw i (by omega)
    have hp := hw _ (List.getElem_mem (show i < ws.length by omega))
    rw [crashM, show ws.getD i (0, []) = ws[i]'(by omega) by simp [List.getD, show i < ws.length by omega]]
    generalize ws[i]'(by omega) = p at *
    unfold stepC
    split
    · refine good_put ih hp.1 (by rw [List.length_take, hp.2.1]; decide) (fun k hk => ?_)
      have hk2 : k < 256 := by rw [List.length_take, hp.2.1] at hk; omega
      rw [List.getD_eq_getElem?_getD, List.getElem?_take_of_lt hk2, ← List.getD_eq_getElem?_getD]
      exact hp.2.2 k (by omega)
    · split
      · exact good_put ih hp.1 (by rw [hp.2.1]; decide) (fun k hk => hp.2.2 k (by rw [hp.2.1] at hk; exact hk))
      · exact ih
theorem secB_all (x : BitVec 8) (k : Nat) (hk : k < 512) : (secB x x).getD k 0 = x := by
  by_cases h : k = 0
  · subst h; exact secB_first x x
  · exact secB_next x x k h hk
theorem secB_zero : secB 0 0 = zeroY 512 := by decide +kernel
theorem flushM_more (F : List (BitVec 8)) (ws : List (Nat × List (BitVec 8))) (p : Nat × List (BitVec 8)) : flushM F (ws ++ [p]) = putL (flushM F ws) (p.1 * 512) p.2 := by
  unfold flushM; rw [List.foldl_append]; rfl
end Go.Proofs.Ytmfpdbmohebodaa
