/-
  What reads as a key of a map of pointers is a pointer; a map of pointers by how often each was counted.
-/
import Derived.Test.YtocdjaenhllemaaPv
import Derived.Maps.OwnSet
import Derived.WideKeyEntry
import Derived.Test.YtocdjaenhllemaaOd
import Derived.Sort.KeysCollected
namespace Go.Proofs.Ytocdjaenhllemaa
section
set_option maxRecDepth 4000
open Go.RowKit

theorem mapM_each {β : Type} (f : Nat → Option β) : ∀ (n : Nat) (ys : List β), (List.range n).mapM f = some ys → ∀ i, i < n → ∃ y, f i = some y
  | 0, _, _, i, hi => by omega
  | n + 1, ys, h, i, hi => by
    rw [List.range_succ, List.mapM_append] at h
    obtain ⟨y1, h1, h2⟩ := Option.bind_eq_some_iff.1 h
    obtain ⟨y2, h3, _⟩ := Option.bind_eq_some_iff.1 h2
    by_cases hn : i = n
    · subst hn
      obtain ⟨y, hy, _⟩ := Option.bind_eq_some_iff.1 (by simpa using h3)
      exact ⟨y, hy⟩
    · exact mapM_each f n y1 h1 i (by omega)
theorem key_u8 {d : Nat} {cs : List Value} {l : List Lit} (h : Try.prog.keyLits (d + 1) 5 cs = some l) : ∃ n : Int, cs = [.int .u8 n] ∧ 0 ≤ n ∧ n ≤ 255 := by
  unfold Program.keyLits at h
  rw [Try.underlying5] at h
  split at h <;> simp_all
  obtain ⟨⟨_, hw⟩, _⟩ := h
  subst_vars
  exact wf_u8 _ hw
theorem key_u32 {d : Nat} {cs : List Value} {l : List Lit} (h : Try.prog.keyLits (d + 1) 30 cs = some l) : ∃ n : Int, cs = [.int .u32 n] ∧ 0 ≤ n ∧ n ≤ 4294967295 := by
  unfold Program.keyLits at h
  rw [Try.underlying30] at h
  split at h <;> simp_all
  obtain ⟨⟨_, hw⟩, _⟩ := h
  subst_vars
  exact wf_u32 _ hw
theorem key_u64 {d : Nat} {cs : List Value} {l : List Lit} (h : Try.prog.keyLits (d + 1) 31 cs = some l) : ∃ n : Int, cs = [.int .u64 n] ∧ 0 ≤ n ∧ n ≤ 18446744073709551615 := by
  unfold Program.keyLits at h
  rw [Try.underlying31] at h
  split at h <;> simp_all
  obtain ⟨⟨_, hw⟩, _⟩ := h
  subst_vars
  exact wf_u64 _ hw
theorem row_of_cells (cs : List Value) (h : ∀ i, i < cs.length → ∃ n : Int, (cs.drop i).take 1 = [.int .u8 n] ∧ 0 ≤ n ∧ n ≤ 255) : ∃ l : List Int, cs = l.map (Value.int .u8) ∧ Byt l := by
  induction cs with
  | nil => exact ⟨[], rfl, fun z hz => by simp at hz⟩
  | cons v cs ih =>
    obtain ⟨n, h0, h1, h2⟩ := h 0 (by simp)
    obtain ⟨l, rfl, hl⟩ := ih (fun i hi => by simpa using h (i + 1) (by simpa using hi))
    obtain rfl : v = .int .u8 n := by simpa using h0
    refine ⟨n :: l, rfl, fun z hz => ?_⟩
    rcases List.mem_cons.1 hz with rfl | hz
    · exact ⟨h1, h2⟩
    · exact hl z hz
theorem key_hash {d : Nat} {cs : List Value} {l : List Lit} (h : Try.prog.keyLits (d + 2) 33 cs = some l) : ∃ su : List Int, cs = su.map (Value.int .u8) ∧ su.length = 32 ∧ Byt su := by
  unfold Program.keyLits at h
  rw [Try.underlying33] at h
  dsimp only at h
  split at h
  · rename_i hl
    rw [show Try.prog.cellsOf 33 = 32 by kernel_rfl] at hl
    rw [show Try.prog.cellsOf 5 = 1 by kernel_rfl] at h
    obtain ⟨ys, hy, _⟩ := Option.map_eq_some_iff.1 h
    obtain ⟨su, hs, hb⟩ := row_of_cells cs (fun i hi => by
      obtain ⟨y, hy⟩ := mapM_each _ _ _ hy i (by omega)
      rw [Nat.mul_one] at hy
      exact key_u8 hy)
    exact ⟨su, hs, by rw [hs, List.length_map] at hl; exact hl, hb⟩
  · cases h
theorem key_inv {v : Value} {l : Lit} (h : keyOf Try.prog 35 v = some l) : ∃ q : PtrV, v = .agg (ptrRow q).toArray ∧ l = kl q := by
  have key : ∃ q : PtrV, v = .agg (ptrRow q).toArray := by
    obtain ⟨d, hd⟩ : ∃ d, Try.prog.types.size + 1 = d + 3 := ⟨Try.prog.types.size - 2, by rw [show Try.prog.types.size = Try.prog.types.size - 2 + 2 from of_decide_eq_true (by kernel_rfl)]; rfl⟩
    have h1 : Try.prog.cellsOf 30 = 1 := by kernel_rfl
    have h2 : Try.prog.cellsOf 31 = 1 := by kernel_rfl
    have h3 : Try.prog.cellsOf 33 = 32 := by kernel_rfl
    unfold keyOf at h
    rw [Try.underlying35] at h
    dsimp only at h
    split at h
    · rename_i hf
      rw [show Try.prog.keyType 35 = true by kernel_rfl, Bool.true_and] at hf
      obtain ⟨L, hL, _⟩ := Option.map_eq_some_iff.1 h
      rw [hd] at hL
      have hv : v = .agg v.cells ∧ v.cells.size = 34 := by
        cases v <;> simp [Value.formed, Try.underlying35] at hf
        exact ⟨rfl, by rw [← show Try.prog.cellsOf 35 = 34 by kernel_rfl]; exact hf⟩
      obtain ⟨hv1, hv2⟩ := hv
      have hcl : v.cells.toList.length = 34 := by simpa using hv2
      generalize hcs : v.cells.toList = cs at hL hcl
      unfold Program.keyLits at hL
      rw [Try.underlying35] at hL
      dsimp only at hL
      split at hL
      · obtain ⟨ys, hy, _⟩ := Option.map_eq_some_iff.1 hL
        simp only [List.mapM_cons, List.mapM_nil, Option.bind_eq_bind, Option.pure_def] at hy
        obtain ⟨y1, e1, hy⟩ := Option.bind_eq_some_iff.1 hy
        obtain ⟨y23, hy, _⟩ := Option.bind_eq_some_iff.1 hy
        obtain ⟨y2, e2, hy⟩ := Option.bind_eq_some_iff.1 hy
        obtain ⟨y4, hy, _⟩ := Option.bind_eq_some_iff.1 hy
        obtain ⟨y3, e3, _⟩ := Option.bind_eq_some_iff.1 hy
        rw [h1] at e1
        rw [h2] at e2
        rw [h3] at e3
        obtain ⟨a, ha, ha0⟩ := key_u32 e1
        obtain ⟨b, hb, hb0⟩ := key_u64 e2
        obtain ⟨su, hs, hs0⟩ := key_hash e3
        refine ⟨⟨a, b, su, ha0, hb0, hs0⟩, ?_⟩
        rw [hv1]
        congr 1
        apply Array.toList_inj.1
        rw [hcs]
        show cs = .int .u32 a :: .int .u64 b :: su.map (Value.int .u8)
        rw [← hs]
        match cs, hcl with
        | c0 :: c1 :: r, hcl =>
          simp at ha hb hcl
          subst ha hb
          rw [show List.drop 2 (Value.int .u32 a :: Value.int .u64 b :: r) = r from rfl, List.take_of_length_le (by omega)]
      · cases hL
    · cases h
  obtain ⟨q, rfl⟩ := key
  refine ⟨q, rfl, ?_⟩
  rw [key_ptr q] at h
  exact (Option.some.inj h).symm
theorem kl_key (q : PtrV) : WideAt.IsKeyLit (kl q) := keyed_ptr.key (key_ptr q)

/-! ### a map by its counts -/
open Go.Maps in
/-- The map has just the pointers of the list, each with how often it stands there. -/
def MapL (D : DataW Unit) (L : List PtrV) : Prop :=
  IsMap D ∧ ∀ q : PtrV, has D (kl q) = decide (q ∈ L) ∧ D.atKey (kl q) (.lit (.int .i64 0)) = .lit (.int .i64 (L.count q : Int))
theorem kl_ne {p q : PtrV} (h : p ≠ q) : kl p ≠ kl q := fun e => h (kl_inj e)
theorem mapL_nil : MapL (.map []) [] := ⟨⟨[], rfl⟩, fun _ => ⟨rfl, rfl⟩⟩
theorem mapL_add {D : DataW Unit} {L : List PtrV} (h : MapL D L) (q : PtrV) : MapL (D.put (kl q) (.lit (.int .i64 ((L.count q : Int) + 1)))) (L ++ [q]) := by
  refine ⟨h.1.put _ _, fun p => ?_⟩
  by_cases e : p = q
  · subst e
    rw [Maps.has_put_same h.1 (kl_key p), Maps.atKey_put_same h.1 (kl_key p)]
    simp [List.count_append]
  · rw [Maps.has_put_other (kl_ne e), Maps.atKey_put_other (kl_ne e), (h.2 p).1, (h.2 p).2]
    simp [List.count_append, e, Ne.symm e]
theorem mapL_less {D : DataW Unit} {L : List PtrV} (h : MapL D L) (q : PtrV) (hq : 2 ≤ L.count q) : MapL (D.put (kl q) (.lit (.int .i64 ((L.count q : Int) - 1)))) (L.erase q) := by
  refine ⟨h.1.put _ _, fun p => ?_⟩
  by_cases e : p = q
  · subst e
    rw [Maps.has_put_same h.1 (kl_key p), Maps.atKey_put_same h.1 (kl_key p)]
    have hc := List.count_erase_self (a := p) (l := L)
    refine ⟨?_, by rw [hc]; congr 2; omega⟩
    symm
    rw [decide_eq_true_iff]
    exact List.count_pos_iff.1 (by omega)
  · rw [Maps.has_put_other (kl_ne e), Maps.atKey_put_other (kl_ne e), (h.2 p).1, (h.2 p).2, List.count_erase_of_ne e]
    refine ⟨?_, rfl⟩
    rw [decide_eq_decide]
    exact (List.mem_erase_of_ne e).symm
theorem mapL_last {D : DataW Unit} {L : List PtrV} (h : MapL D L) (q : PtrV) (hq : L.count q = 1) : MapL (D.del (kl q)) (L.erase q) := by
  refine ⟨h.1.del _, fun p => ?_⟩
  by_cases e : p = q
  · subst e
    rw [Maps.has_del_same, Maps.atKey_del_same]
    have hc := List.count_erase_self (a := p) (l := L)
    refine ⟨?_, by rw [hc, hq]; rfl⟩
    symm
    rw [decide_eq_false_iff_not]
    intro hm
    have := List.count_pos_iff.2 hm
    omega
  · rw [Maps.has_del_other (kl_ne e), Maps.atKey_del_other (kl_ne e), (h.2 p).1, (h.2 p).2, List.count_erase_of_ne e]
    refine ⟨?_, rfl⟩
    rw [decide_eq_decide]
    exact (List.mem_erase_of_ne e).symm
/-- The map of a Counts, in memory. -/
abbrev OM (w : World) (bm K : Nat) (D : DataW Unit) : Prop := w.ownsMap Try.prog 35 (plainElem Try.prog 3) bm K D
theorem zero_int8 (W : World) : (zeroValue 3).run Try.prog W = .ok (.int .i64 0) W := by kernel_rfl
theorem om_move {w W : World} {bm K : Nat} {D : DataW Unit} (h : OM w bm K D) (e : W.heap[bm]? = w.heap[bm]?) : OM W bm K D := by
  obtain ⟨es, clock, hb, F, hs, hD⟩ := h
  exact ⟨es, clock, e.trans hb, F, hs, hD⟩
theorem om_look {w : World} {bm K : Nat} {D : DataW Unit} {L : List PtrV} (h : OM w bm K D) (hm : MapL D L) (q : PtrV) :
    (Instr.lookup 53 (.map (some bm)) (.agg (ptrRow q).toArray) false).run Try.prog w = .ok (.int .i64 (L.count q : Int)) w := by
  obtain ⟨c, hrun, hat, _⟩ := h.lookup_int keyed_ptr Try.underlying53 Try.underlying3 (zero_int8 w) (key_ptr q)
  rw [(hm.2 q).2] at hat
  simp only [DataW.lit.injEq, Lit.int.injEq, true_and] at hat
  rw [hat]
  exact hrun
theorem wf_int8 {c : Int} (h0 : 0 ≤ c) (h1 : c ≤ 1000000000) : (Lit.int .i64 c).wf = true := by simp [Lit.wf, IntKind.min, IntKind.max, IntKind.signed, IntKind.bits]; omega
theorem om_store {w : World} {bm K : Nat} {D : DataW Unit} (h : OM w bm K D) (hK : K ≤ 1000000) (q : PtrV) (c : Int) (h0 : 0 ≤ c) (h1 : c ≤ 1000000000) :
    ∃ w', (Instr.mapUpdate 53 (.map (some bm)) (.agg (ptrRow q).toArray) (.int .i64 c)).run Try.prog w = .ok () w' ∧ OM w' bm (K + 1) (D.put (kl q) (.lit (.int .i64 c))) ∧ w.mapTurned w' bm :=
  h.store keyed_ptr Try.underlying53 (by unfold maxLen; omega) (key_ptr q) (plainElem_int Try.underlying3 (wf_int8 h0 h1))
open Go.MapKept in
/-- 'm[k]++' in its parts: the entry made (or found), what is read then, what is stored. -/
theorem om_entry {w : World} {bm K : Nat} {D : DataW Unit} {L : List PtrV} (h : OM w bm K D) (hm : MapL D L) (hK : K ≤ 1000000) (hL : L.length ≤ 1000000) (q : PtrV) :
    ∃ (v0 : Value) (st : Nat) (o1 : Obj), (Instr.mapEntry 53 (.map (some bm)) (.agg (ptrRow q).toArray)).run Try.prog w = .ok (.tuple #[v0, goInt st]) (ChangeMaps.setBlock w bm o1) ∧
      (∀ W : World, W.heap[bm]? = some o1 → (Instr.lookup 53 (.map (some bm)) (.agg (ptrRow q).toArray) false).run Try.prog W = .ok (.int .i64 (L.count q : Int)) W) ∧
      ∀ w2 : World, w2.heap[bm]? = some o1 → ∃ o2, (Instr.entryStore 53 (.map (some bm)) (goInt st) (.int .i64 ((L.count q : Int) + 1))).run Try.prog w2 = .ok () (ChangeMaps.setBlock w2 bm o2) ∧
        ∀ W : World, W.heap[bm]? = some o2 → OM W bm (K + 1) (D.put (kl q) (.lit (.int .i64 ((L.count q : Int) + 1)))) := by
  have hcl : L.count q ≤ L.length := List.count_le_length
  obtain ⟨w', hrun, hown, _⟩ := om_store h hK q ((L.count q : Int) + 1) (by omega) (by omega)
  have hlk := om_look h hm q
  obtain ⟨es, clock, hb, F, hs, hD⟩ := id h
  obtain ⟨v0, st, es1, clock1, he, _, hst⟩ := WideElems.entry_then_store law_ptr Try.underlying53 zero_int8 hb F (key_ptr q)
  refine ⟨v0, st, _, he, fun W hW => ?_, fun w2 hw2 => ?_⟩
  · rcases keyed_ptr.find w (key_ptr q) es.toList F.keys with ⟨h1, h2⟩ | ⟨j, e0, h1, h2, h3⟩
    · -- the key was not there
      have e1 : (Instr.mapEntry 53 (.map (some bm)) (.agg (ptrRow q).toArray)).run Try.prog w = .ok (.tuple #[.int .i64 0, goInt clock]) (ChangeMaps.setBlock w bm (.map (es.push ⟨.agg (ptrRow q).toArray, .int .i64 0, clock⟩) (clock + 1))) := by
        simp [Instr.mapEntry, run_underlying Try.underlying53, MapKept.run_getObj_map hb, keyed_ptr.check w false (key_ptr q), h1, MapKept.run_setObj_map _ hb, Result.andThen, ChangeMaps.setBlock]
      rw [e1] at he
      have e2 := (Result.ok.inj he).2
      have e3 := congrArg (fun W : World => W.heap[bm]?) e2
      rw [ChangeMaps.heap_setBlock_same hb, ChangeMaps.heap_setBlock_same hb] at e3
      obtain ⟨w9, hr9, ho9, _⟩ := om_store h hK q 0 (by omega) (by omega)
      have e4 : (Instr.mapUpdate 53 (.map (some bm)) (.agg (ptrRow q).toArray) (.int .i64 0)).run Try.prog w = .ok () (ChangeMaps.setBlock w bm (.map (es.push ⟨.agg (ptrRow q).toArray, .int .i64 0, clock⟩) (clock + 1))) := by
        simp [Instr.mapUpdate, run_underlying Try.underlying53, MapKept.run_getObj_map hb, keyed_ptr.check w false (key_ptr q), h1, MapKept.run_setObj_map _ hb, Result.andThen, ChangeMaps.setBlock]
      rw [hr9] at e4
      have e5 := (Result.ok.inj e4).2
      have oW : OM W bm (K + 1) (D.put (kl q) (.lit (.int .i64 0))) := om_move ho9 (by rw [hW, ← e3, e5, ChangeMaps.heap_setBlock_same hb])
      obtain ⟨c, hrun2, hat, _⟩ := oW.lookup_int keyed_ptr Try.underlying53 Try.underlying3 (zero_int8 W) (key_ptr q)
      rw [Maps.atKey_put_same hm.1 (kl_key q)] at hat
      simp only [DataW.lit.injEq, Lit.int.injEq, true_and] at hat
      have hc0 : (L.count q : Int) = 0 := by
        rcases Maps.fit_look false keyed_ptr Try.underlying53 (zero_int8 w) hb F (key_ptr q) with ⟨_, _, ha⟩ | ⟨e0, _, hm0, hk0, _⟩
        · have h5 := ha (.lit (.int .i64 0))
          rw [← hD, (hm.2 q).2] at h5
          simpa using h5
        · exact absurd hk0 (h2 e0 hm0)
      rw [hc0, hat]
      exact hrun2
    · -- it was
      have hj : es[j]? = some e0 := by simpa using h2
      have hsame : es.modify j (fun e => { e with key := .agg (ptrRow q).toArray }) = es := by
        apply Array.ext'
        rw [Array.toList_modify, ChangeMaps.modify_eq_set _ _ _ _ h2]
        have : ({ e0 with key := .agg (ptrRow q).toArray } : MapEntry) = e0 := by rw [← h3]
        rw [this]
        exact WideElems.set_self _ _ _ h2
      have e1 : (Instr.mapEntry 53 (.map (some bm)) (.agg (ptrRow q).toArray)).run Try.prog w = .ok (.tuple #[e0.val, goInt e0.born]) (ChangeMaps.setBlock w bm (.map es clock)) := by
        simp [Instr.mapEntry, run_underlying Try.underlying53, MapKept.run_getObj_map hb, keyed_ptr.check w false (key_ptr q), h1, hj, h3, keyed_ptr.stays w (key_ptr q), hsame, MapKept.run_setObj_map _ hb, Result.andThen, ChangeMaps.setBlock]
      rw [e1] at he
      have e2 := (Result.ok.inj he).2
      have e3 := congrArg (fun W : World => W.heap[bm]?) e2
      rw [ChangeMaps.heap_setBlock_same hb, ChangeMaps.heap_setBlock_same hb] at e3
      exact om_look (om_move h (by rw [hW, ← e3, hb])) hm q
  · obtain ⟨es', clock', h1, h2⟩ := hst w2 (.int .i64 ((L.count q : Int) + 1)) hw2
    refine ⟨_, h1, fun W hW => om_move hown ?_⟩
    rw [hrun] at h2
    rw [hW, (Result.ok.inj h2).2, ChangeMaps.heap_setBlock_same hb]
end
section
set_option maxRecDepth 4000
open Go.RowKit

/-- A pointer laid into a rising list, if it isn't there. -/
def ins8 (q : PtrV) : List PtrV → List PtrV
  | [] => [q]
  | p :: r => if nuP p < nuP q then p :: ins8 q r else if p = q then p :: r else q :: p :: r
def allL (L : List PtrV) : List PtrV := L.foldl (fun out q => ins8 q out) []
def Rise (l : List PtrV) : Prop := l.Pairwise fun x y => nuP x < nuP y
theorem mem_ins8 (q x : PtrV) : ∀ l : List PtrV, x ∈ ins8 q l ↔ x = q ∨ x ∈ l
  | [] => by simp [ins8]
  | p :: r => by
    unfold ins8
    split
    · rw [List.mem_cons, mem_ins8 q x r, List.mem_cons]
      constructor
      · rintro (h | h | h)
        · exact .inr (.inl h)
        · exact .inl h
        · exact .inr (.inr h)
      · rintro (h | h | h)
        · exact .inr (.inl h)
        · exact .inl h
        · exact .inr (.inr h)
    · split
      · rename_i h
        subst h
        constructor
        · exact .inr
        · rintro (rfl | h)
          · simp
          · exact h
      · simp
theorem rise_ins8 (q : PtrV) : ∀ l : List PtrV, Rise l → Rise (ins8 q l)
  | [], _ => List.pairwise_singleton _ _
  | p :: r, h => by
    obtain ⟨h1, h2⟩ := List.pairwise_cons.1 h
    unfold ins8
    split
    · rename_i hlt
      refine List.pairwise_cons.2 ⟨fun x hx => ?_, rise_ins8 q r h2⟩
      rcases (mem_ins8 q x r).1 hx with rfl | hx
      · exact hlt
      · exact h1 x hx
    · split
      · exact h
      · rename_i hn hne
        have hq : nuP q < nuP p := by
          have : nuP p ≠ nuP q := fun e => hne (nuP_inj e)
          omega
        refine List.pairwise_cons.2 ⟨fun x hx => ?_, h⟩
        rcases List.mem_cons.1 hx with rfl | hx
        · exact hq
        · exact Int.lt_trans hq (h1 x hx)
theorem allL_snoc (L : List PtrV) (q : PtrV) : allL (L ++ [q]) = ins8 q (allL L) := by simp [allL]
theorem allL_rise (L : List PtrV) : Rise (allL L) := by
  have key : ∀ (L out : List PtrV), Rise out → Rise (L.foldl (fun out q => ins8 q out) out) := by
    intro L
    induction L with
    | nil => exact fun _ h => h
    | cons q L ih => exact fun out h => ih _ (rise_ins8 q out h)
  exact key L [] List.Pairwise.nil
theorem mem_allL (L : List PtrV) (x : PtrV) : x ∈ allL L ↔ x ∈ L := by
  have key : ∀ (L out : List PtrV), x ∈ L.foldl (fun out q => ins8 q out) out ↔ x ∈ L ∨ x ∈ out := by
    intro L
    induction L with
    | nil => intro out; simp
    | cons q L ih =>
      intro out
      rw [List.foldl_cons, ih, mem_ins8, List.mem_cons]
      constructor
      · rintro (h | h | h)
        · exact .inl (.inr h)
        · exact .inl (.inl h)
        · exact .inr h
      · rintro ((h | h) | h)
        · exact .inr (.inl h)
        · exact .inl h
        · exact .inr (.inr h)
  rw [allL, key L []]
  simp
theorem rise_nodup {l : List PtrV} (h : Rise l) : l.Nodup := h.imp fun hlt e => by subst e; omega
theorem rise_eq {l m : List PtrV} (hl : Rise l) (hm : Rise m) (h : ∀ x, x ∈ l ↔ x ∈ m) : l = m :=
  List.Perm.eq_of_pairwise (le := fun x y => nuP x < nuP y) (fun a b _ _ h1 h2 => by omega) hl hm ((List.perm_ext_iff_of_nodup (rise_nodup hl) (rise_nodup hm)).2 h)
/-- Sorted, with the members of L, none twice: all of L. -/
theorem all_of_sorted {l L : List PtrV} (hs : l.Pairwise fun x y => nuP x ≤ nuP y) (hn : l.Nodup) (h : ∀ x, x ∈ l ↔ x ∈ L) : l = allL L := by
  refine rise_eq ?_ (allL_rise L) (fun x => (h x).trans (mem_allL L x).symm)
  refine (hs.and hn).imp fun ⟨h1, h2⟩ => ?_
  have : nuP _ ≠ nuP _ := fun e => h2 (nuP_inj e)
  omega
def distinct (L : List PtrV) : Nat := (allL L).length
/-- The keys of a map of pointers. -/
theorem keys_of_map {w : World} {bm K : Nat} {D : DataW Unit} (h : OM w bm K D) : ∃ ks : List PtrV, ks.Nodup ∧ ks.length = Maps.size D ∧ ∀ q, q ∈ ks ↔ Maps.has D (kl q) = true := by
  obtain ⟨es, hD, hpw, hk⟩ := World.ownsMap.entries h keyed_ptr
  obtain ⟨es', hD', hko⟩ := World.ownsMap.keysOf h
  obtain rfl : es = es' := by rw [hD] at hD'; simpa using hD'
  subst hD
  clear hD' hk h
  have key : ∃ ks : List PtrV, es.map (·.1) = ks.map kl := by
    clear hpw
    induction es with
    | nil => exact ⟨[], rfl⟩
    | cons p es ih =>
      obtain ⟨ks, hks⟩ := ih (fun x hx => hko x (by simp [hx]))
      obtain ⟨v, hv⟩ := hko p (by simp)
      obtain ⟨q, _, hq⟩ := key_inv hv
      exact ⟨q :: ks, by rw [List.map_cons, List.map_cons, hks, hq]⟩
  obtain ⟨ks, hks⟩ := key
  refine ⟨ks, ?_, ?_, fun q => ?_⟩
  · have h1 : (es.map (·.1)).Nodup := List.pairwise_map.2 hpw
    rw [hks] at h1
    exact (List.pairwise_map.1 h1).imp fun hne e => hne (by rw [e])
  · have := congrArg List.length hks
    simp only [List.length_map] at this
    exact this.symm
  · rw [Maps.has_eq, List.any_eq_true]
    constructor
    · intro hq
      have h1 : kl q ∈ es.map (·.1) := by rw [hks]; exact List.mem_map.2 ⟨q, hq, rfl⟩
      obtain ⟨p, hp, he⟩ := List.mem_map.1 h1
      exact ⟨p, hp, by rw [he]; exact WideAt.sameKey_self (kl_key q)⟩
    · rintro ⟨p, hp, he⟩
      have e := WideAt.sameKey_eq he
      have h1 : kl q ∈ ks.map kl := by rw [← hks, ← e]; exact List.mem_map.2 ⟨p, hp, rfl⟩
      obtain ⟨x, hx, hxe⟩ := List.mem_map.1 h1
      rwa [kl_inj hxe] at hx
theorem size_mapL {w : World} {bm K : Nat} {D : DataW Unit} {L : List PtrV} (h : OM w bm K D) (hm : MapL D L) : Maps.size D = distinct L := by
  obtain ⟨ks, h1, h2, h3⟩ := keys_of_map h
  rw [← h2]
  exact ((List.perm_ext_iff_of_nodup h1 (rise_nodup (allL_rise L))).2 (fun x => by rw [h3, mem_allL, (hm.2 x).1, decide_eq_true_iff])).length_eq
end
end Go.Proofs.Ytocdjaenhllemaa
