/-
  Datasets created of names; a map of names of one's own, looked up, put, counted, ranged over; slices of names turned (DirOrders).
-/
import Derived.Test.YtkafabcklohlmaaIp
import Derived.Maps.RangeWalk
namespace Go.Proofs.Ytkafabcklohlmaa
set_option maxRecDepth 4000
set_option linter.unusedVariables false
open Go.ChangeShapes Go.WideShapes Go.ChangeAt Go.RowKit
open Go.Maps (Keyed)

def mkS (n : ByteArray) : SetV := ⟨n, noS, false, zeroPtr⟩
/-- Datasets that came of names. -/
structure PO (S : List ByteArray) (L : List SetV) : Prop where
  v : VL L
  mem : ∀ s, s ∈ L ↔ ∃ n ∈ S, mayN n = true ∧ s = mkS n
  len : L.length ≤ S.length
theorem po_nil : PO [] [] := ⟨vl_nil, fun s => by simp, Nat.le_refl _⟩
theorem PO.nm {S : List ByteArray} {L : List SetV} (h : PO S L) (n : ByteArray) : n ∈ nms L ↔ n ∈ S ∧ mayN n = true := by
  rw [mem_nms]
  constructor
  · rintro ⟨s, hs, rfl⟩
    obtain ⟨n, hn, hm, rfl⟩ := (h.mem s).1 hs
    exact ⟨hn, hm⟩
  · rintro ⟨hn, hm⟩
    exact ⟨mkS n, (h.mem _).2 ⟨n, hn, hm, rfl⟩, rfl⟩
theorem PO.find {S : List ByteArray} {L : List SetV} (h : PO S L) {n : ByteArray} (hn : n ∈ nms L) : findD L n = (mkS n, 0) := by
  have h1 := (h.nm n).1 hn
  exact find_mem h.v (s := mkS n) ((h.mem _).2 ⟨n, h1.1, h1.2, rfl⟩)
/-- One more name: created, or it may not be, or is there. -/
theorem PO.made {S : List ByteArray} {L : List SetV} (h : PO S L) {n : ByteArray} (e : (createD L n).1 = 0) :
    PO (S ++ [n]) (createD L n).2 ∧ (createD L n).2.length = L.length + 1 ∧ n ∉ nms L ∧ ∀ x, x ∈ nms (createD L n).2 ↔ x = n ∨ x ∈ nms L := by
  unfold createD at e ⊢
  rw [if_pos (valid_iff.2 h.v)] at e ⊢
  obtain ⟨e2, hf, hv, hl⟩ := add_valid (s := mkS n) h.v (fun hz => ok_new hz (by decide) (fun e => by cases e) mayB_zero) (.inl rfl) e
  obtain ⟨hz, hn⟩ := fresh_iff.1 hf
  have hn : n ∉ nms L := hn
  rw [show addD L ⟨n, noS, false, zeroPtr⟩ = addD L (mkS n) from rfl, e2]
  have hmem : ∀ s, s ∈ withL L (mkS n) ↔ s = mkS n ∨ s ∈ L := fun s => mem_with (s := mkS n) hn
  refine ⟨⟨hv, fun s => ?_, by rw [hl, List.length_append, List.length_singleton]; have := h.len; omega⟩, hl, hn, fun x => ?_⟩
  · rw [hmem s, h.mem s]
    constructor
    · rintro (rfl | ⟨m, hm, h1, h2⟩)
      · exact ⟨n, by simp, mayN_iff.2 hz, rfl⟩
      · exact ⟨m, by simp [hm], h1, h2⟩
    · rintro ⟨m, hm, h1, h2⟩
      rcases List.mem_append.1 hm with hm | hm
      · exact .inr ⟨m, hm, h1, h2⟩
      · rw [List.mem_singleton.1 hm] at h2
        exact .inl h2
  · rw [mem_nms, mem_nms]
    constructor
    · rintro ⟨s, hs, rfl⟩
      rcases (hmem s).1 hs with rfl | hs
      · exact .inl rfl
      · exact .inr ⟨s, hs, rfl⟩
    · rintro (rfl | ⟨s, hs, rfl⟩)
      · exact ⟨mkS x, (hmem _).2 (.inl rfl), rfl⟩
      · exact ⟨s, (hmem _).2 (.inr hs), rfl⟩
theorem PO.kept {S : List ByteArray} {L : List SetV} (h : PO S L) {n : ByteArray} (e : (createD L n).1 ≠ 0) : PO (S ++ [n]) L := by
  have hf : freshE L n ≠ 0 := fun hf => by
    apply e
    unfold createD addD
    rw [if_pos (valid_iff.2 h.v), if_pos hf]
  refine ⟨h.v, fun s => ?_, by rw [List.length_append, List.length_singleton]; have := h.len; omega⟩
  rw [h.mem s]
  constructor
  · rintro ⟨m, hm, h1, h2⟩
    exact ⟨m, by simp [hm], h1, h2⟩
  · rintro ⟨m, hm, h1, h2⟩
    rcases List.mem_append.1 hm with hm | hm
    · exact ⟨m, hm, h1, h2⟩
    · obtain rfl := List.mem_singleton.1 hm
      have hin : m ∈ nms L := Classical.byContradiction fun h0 => hf (fresh_iff.2 ⟨mayN_iff.1 h1, h0⟩)
      exact ⟨m, ((h.nm m).1 hin).1, h1, h2⟩
theorem PO.next {S : List ByteArray} {L : List SetV} {i : Nat} {n : ByteArray} (h : PO (S.take i) L) (hn : S[i]? = some n) : ((createD L n).1 = 0 → PO (S.take (i + 1)) (createD L n).2 ∧ (createD L n).2.length = L.length + 1 ∧ n ∉ nms L ∧ ∀ x, x ∈ nms (createD L n).2 ↔ x = n ∨ x ∈ nms L) ∧ ((createD L n).1 ≠ 0 → PO (S.take (i + 1)) L) := by
  have e : S.take (i + 1) = S.take i ++ [n] := by rw [List.take_add_one, hn]; rfl
  rw [e]
  exact ⟨fun e => h.made e, fun e => h.kept e⟩
/-- In another order they are the same. -/
theorem PO.same {S T : List ByteArray} {L M : List SetV} (h : PO S L) (k : PO T M) (e : ∀ n, n ∈ S ↔ n ∈ T) : L = M := by
  refine ris_ext h.v.ris k.v.ris fun s => ?_
  rw [h.mem s, k.mem s]
  constructor
  · rintro ⟨n, hn, h1⟩; exact ⟨n, (e n).1 hn, h1⟩
  · rintro ⟨n, hn, h1⟩; exact ⟨n, (e n).2 hn, h1⟩
theorem turned_names (S : List ByteArray) (k : Nat) (n : ByteArray) : n ∈ S ↔ n ∈ S.drop k ++ S.take k := by
  conv => lhs; rw [← List.take_append_drop k S]
  rw [List.mem_append, List.mem_append, or_comm]
/-! ### a map of names -/
/-- Is it among them? -/
def amg15 (L : List ByteArray) (a : ByteArray) : Bool := L.any (fun x => decide (x = a))
theorem amg15_iff {L : List ByteArray} {a : ByteArray} : amg15 L a = true ↔ a ∈ L := by simp [amg15]
theorem amg15_no {L : List ByteArray} {a : ByteArray} (h : a ∉ L) : amg15 L a = false := by
  cases e : amg15 L a with
  | false => rfl
  | true => exact absurd (amg15_iff.1 e) h
theorem bool15 {v : Value} {x : Bool} {ps : List MemPlace} (h : plainElem (H := Unit) Try.prog 4 v = some (.lit (.bool x), ps)) : v = .bool x := by
  unfold plainElem at h
  rw [Try.underlying4] at h
  cases v <;> simp at h ⊢
  exact h.1
/-- What a map that tells just these names is. -/
structure MD (D : DataW Unit) (d : Nat) (L : List ByteArray) : Prop where
  isMap : Maps.IsMap D
  tidy : Maps.Tidy D
  size : Maps.size D = d
  tells : ∀ a : ByteArray, Maps.has D (kS15 a) = amg15 L a ∧ D.atKey (kS15 a) (.lit (.bool false)) = .lit (.bool (amg15 L a))
/-- A map in block b that tells just these names; c puts so far at most, d keys. -/
structure MB (w : World) (b c d : Nat) (L : List ByteArray) : Prop where
  map : ∃ D, w.ownsMap Try.prog 9 (plainElem (H := Unit) Try.prog 4) b c D ∧ MD D d L
theorem MB.lt {w : World} {b c d : Nat} {L : List ByteArray} (h : MB w b c d L) : b < w.heap.size := by obtain ⟨D, h1, _⟩ := h.map; exact h1.lt
theorem MB.move {w w' : World} {b c d : Nat} {L : List ByteArray} (h : MB w b c d L) (e : w'.heap[b]? = w.heap[b]?) : MB w' b c d L := by
  obtain ⟨D, ⟨es, clock, hb, F, hs, hD⟩, h2⟩ := h.map
  exact ⟨D, ⟨es, clock, e.trans hb, F, hs, hD⟩, h2⟩
theorem MB.below {w w' : World} {b c d : Nat} {L : List ByteArray} (h : MB w b c d L) (q : Below w.heap.size w w') : MB w' b c d L := h.move (q.block b h.lt)
theorem MB.as {w : World} {b c d : Nat} {L M : List ByteArray} (h : MB w b c d L) (e : ∀ x, x ∈ L ↔ x ∈ M) : MB w b c d M := by
  obtain ⟨D, h1, h2⟩ := h.map
  exact ⟨D, h1, h2.isMap, h2.tidy, h2.size, fun a => by rw [(h2.tells a).1, (h2.tells a).2, show amg15 L a = amg15 M a by rw [Bool.eq_iff_iff, amg15_iff, amg15_iff]; exact e a]; exact ⟨rfl, rfl⟩⟩
theorem mb_made (w : World) : MB (w.alloc (.map #[] 0)) w.heap.size 0 0 [] :=
  ⟨_, World.ownsMap_made w _ _ _, Maps.isMap_empty, Maps.tidy_empty, rfl, fun a => ⟨rfl, rfl⟩⟩
theorem mb_look {w : World} {b c d : Nat} {L : List ByteArray} (h : MB w b c d L) (a : ByteArray) (ha : a.size ≤ 140737488351232) :
    (Instr.lookup 58 (.map (some b)) (.string a) false).run Try.prog w = .ok (.bool (amg15 L a)) w := by
  obtain ⟨D, h1, h2⟩ := h.map
  obtain ⟨v, ps, hr, hv⟩ := h1.lookup (t := 58) (e := 4) (Maps.string_keyed Try.underlying9) Try.underlying58 (z := .bool false) (by kernel_rfl) (plainElem_bool (H := Unit) Try.underlying4 false) (keyof15 a ha)
  rw [(h2.tells a).2] at hv
  rw [hr, bool15 hv]
theorem mb_len {w : World} {b c d : Nat} {L : List ByteArray} (h : MB w b c d L) (ty : TypeId) : (Builtin.len_ #[58] ty #[.map (some b)]).run Try.prog w = .ok (.int .i64 (d : Int)) w := by
  obtain ⟨D, h1, h2⟩ := h.map
  rw [World.ownsMap.len h1 Try.underlying58 ty, h2.size]
theorem mb_put {w : World} {b c d : Nat} {L : List ByteArray} (h : MB w b c d L) (hc : c < 1000000) (a : ByteArray) (ha : a.size ≤ 140737488351232) (hn : a ∉ L) :
    ∃ w', (Instr.mapUpdate 58 (.map (some b)) (.string a) (.bool true)).run Try.prog w = .ok () w' ∧ MB w' b (c + 1) (d + 1) (a :: L) ∧ Touch [b] w w' := by
  obtain ⟨D, h1, h2⟩ := h.map
  obtain ⟨w', hr, ho, hg⟩ := h1.update (t := 58) (e := 4) (Maps.string_keyed Try.underlying9) Try.underlying58 (by unfold maxLen; omega) (keyof15 a ha) (plainElem_bool (H := Unit) Try.underlying4 true)
  refine ⟨w', hr, ⟨_, ho, h2.isMap.put _ _, h2.tidy.put (by trivial) _, ?_, fun x => ?_⟩, ⟨hg.os, hg.tape, hg.output, hg.size, fun k h1 h2 => hg.block k h1 (by simpa using h2)⟩⟩
  · rw [Maps.size_put h2.tidy, (h2.tells a).1, h2.size, amg15_no hn]
    rfl
  · by_cases e : x = a
    · subst e
      rw [Maps.has_put_same h2.isMap (by trivial), Maps.atKey_put_same h2.isMap (by trivial)]
      simp [amg15]
    · rw [Maps.has_put_other (kS15_ne e), Maps.atKey_put_other (kS15_ne e), (h2.tells x).1, (h2.tells x).2]
      simp [amg15, Ne.symm e]
theorem keyed15 : Keyed Try.prog 9 := Maps.string_keyed Try.underlying9
theorem keyinv15 {key : Value} {kl : Lit} (h : keyOf Try.prog 9 key = some kl) : ∃ a : ByteArray, key = .string a ∧ kl = kS15 a := by
  obtain ⟨s, e1, e2, _⟩ := WideMaps.string_of_keyOf Try.underlying9 h
  exact ⟨s, e1, e2⟩
abbrev RG15 (w : World) (b r n : Nat) (D : DataW Unit) (left : Lit → Bool) (cn : Nat) : Prop := w.ranges Try.prog 9 (plainElem (H := Unit) Try.prog 4) b r n D left cn
theorem RG15.below {w w' : World} {b r n : Nat} {D : DataW Unit} {left : Lit → Bool} {cn : Nat} (h : RG15 w b r n D left cn) (q : Below w.heap.size w w') : RG15 w' b r n D left cn := by
  have h1 := World.ranges.owns h
  have h2 := World.ranges.lt h
  have h3 := h1.lt
  obtain ⟨es, clock, since, seen, c0, hb, F, hs, hD, hr, rest⟩ := h
  exact ⟨es, clock, since, seen, c0, (q.block b h3).trans hb, F, hs, hD, (q.block r h2).trans hr, rest⟩
/-! ### slices of names -/
theorem ss_at15 {w : World} {a : Option Addr} {n c i : Nat} {l : List ByteArray} {s : ByteArray} (h : SS w (.slice a n c) l) (hs : l[i]? = some s) : ∃ b off, a = some ⟨b, off, none⟩ ∧ w.cell? ⟨b, off + i, none⟩ = some (.string s) := by
  obtain ⟨a', c', he, hcc, hc⟩ := h
  injection he with e1 e2 e3
  subst e1
  exact hc i s hs
theorem ss_drop (W : World) (a : Option Addr) (len cap lo : Nat) (l : List ByteArray) (h : SS W (.slice a len cap) l) (h1 : lo ≤ len) :
    ∃ a2 : Option Addr, (∀ W', (Instr.slice 57 (.slice a len cap) (some (.int .i64 (lo : Int))) none none).run Try.prog W' = .ok (.slice a2 (len - lo) (cap - lo)) W') ∧ SS W (.slice a2 (len - lo) (cap - lo)) (l.drop lo) := by
  obtain ⟨i0, hi0, hs⟩ := Option.map_eq_some_iff.1 (show (Try.prog.info? 9).map (·.size) = some 1 by kernel_rfl)
  obtain ⟨a', c', he, h3, hc⟩ := h
  injection he with e1 e2 e3
  subst e1; subst e3; subst e2
  refine ⟨if cap = lo then a else a.map (·.add (lo * 1)), ?_, ?_⟩
  · intro W'
    have b2 := ybound_ok lo l.length .sliceB h1 W'
    simp [Instr.slice, run_underlying Try.underlying57, Instr.sliceBounds, sizeOf, typeInfo, hi0, hs, b2]
  · refine ⟨_, _, by rw [List.length_drop], by rw [List.length_drop]; omega, fun i q hq => ?_⟩
    rw [List.getElem?_drop] at hq
    have hlt := (List.getElem?_eq_some_iff.1 hq).1
    obtain ⟨b, off, e, hr⟩ := hc (lo + i) q hq
    subst e
    refine ⟨b, off + lo, ?_, ?_⟩
    · rw [if_neg (by omega)]; simp [Addr.add_mid]
    · rw [show off + lo + i = off + (lo + i) by omega]; exact hr
theorem ss_take (W : World) (a : Option Addr) (len cap hi : Nat) (l : List ByteArray) (h : SS W (.slice a len cap) l) (h1 : hi ≤ len) :
    ∃ a2 : Option Addr, (∀ W', (Instr.slice 57 (.slice a len cap) none (some (.int .i64 (hi : Int))) none).run Try.prog W' = .ok (.slice a2 hi cap) W') ∧ SS W (.slice a2 hi cap) (l.take hi) := by
  obtain ⟨i0, hi0, hs⟩ := Option.map_eq_some_iff.1 (show (Try.prog.info? 9).map (·.size) = some 1 by kernel_rfl)
  obtain ⟨a', c', he, hcc, hc⟩ := h
  injection he with e1 e2 e3
  subst e1; subst e3; subst e2
  refine ⟨if cap = 0 then a else a.map (·.add 0), ?_, ?_⟩
  · intro W'
    have b1 := ybound_ok hi cap .sliceAcap (by omega) W'
    simp [Instr.slice, run_underlying Try.underlying57, Instr.sliceBounds, sizeOf, typeInfo, hi0, b1]
  · refine ⟨_, _, by rw [List.length_take, Nat.min_eq_left h1], by rw [List.length_take]; omega, fun i q hq => ?_⟩
    rw [List.getElem?_take] at hq
    split at hq
    · have hlt := (List.getElem?_eq_some_iff.1 hq).1
      obtain ⟨b, off, e, hr⟩ := hc i q hq
      subst e
      refine ⟨b, off, ?_, hr⟩
      rw [if_neg (by omega)]
      simp [Addr.add_mid]
    · cases hq
/-- A slice of names of one's own. -/
def OST (w : World) (B : Nat) (v : Value) (S : List ByteArray) : Prop := w.ownsRow B 9 1 v S.length (S.map Value.string)
theorem infos15 : (Try.prog.info? 9).map (fun i => (i.zero, i.size, i.bytes)) = some (some (.string ⟨#[]⟩), 1, 16) := by kernel_rfl
theorem ost_app {w : World} {B : Nat} {v u : Value} {K M : List ByteArray} (h : OST w B v K) (hB : B ≤ w.heap.size) (hu : SS w u M) (hn : K.length + M.length ≤ 100000) (ty : TypeId) :
    ∃ v' w', (Builtin.append_ #[57, 57] ty #[v, u]).run Try.prog w = .ok v' w' ∧ OST w' B v' (K ++ M) ∧ w.grownBy w' v.ownBlock := by
  obtain ⟨i, hi, hz⟩ := Option.map_eq_some_iff.1 infos15
  simp only [Prod.mk.injEq] at hz
  obtain ⟨h1, h2, h3⟩ := hz
  obtain ⟨ad, cu, rfl, hcu, hc⟩ := hu
  cases ad with
  | none =>
    have hl : M = [] := by
      cases M with
      | nil => rfl
      | cons p l => obtain ⟨b, off, h, _⟩ := hc 0 p rfl; cases h
    subst hl
    refine ⟨v, w, ?_, by rw [List.append_nil]; exact h, ⟨rfl, rfl, rfl, Nat.le_refl _, fun _ _ _ => rfl⟩⟩
    rcases h.2 with ⟨e, h0⟩ | ⟨g, cap, cur, rfl, hb, hcc, q1, q2, q3, q4⟩
    · rw [e]
      simp [Builtin.append_, run_underlying Try.underlying57, sizeOf, typeInfo, hi, Builtin.lenOf, Builtin.firstCells]
    · simp [Builtin.append_, run_underlying Try.underlying57, sizeOf, typeInfo, hi, Builtin.lenOf, Builtin.firstCells, q1, storeCells]
  | some ad =>
    obtain ⟨v', w', hr, ho, hg, _, hnb⟩ := run_append_own_at (P := Try.prog) w B 57 ty 9 i _ 1 16 Try.underlying57 hi h1 h2 h3 (by simp [Value.cells]) (by decide) v K.length (K.map Value.string) h ad M.length cu (M.map Value.string) (by simp) (fun j u hj => by
      rw [List.getElem?_map] at hj
      obtain ⟨s, hs, rfl⟩ := Option.map_eq_some_iff.1 hj
      obtain ⟨b, off, he, hrg⟩ := hc j s hs
      obtain rfl := Option.some.inj he
      rw [Addr.add_mid]
      exact hrg) (by intro v hv; obtain ⟨s, _, rfl⟩ := List.mem_map.1 hv; rfl) (by unfold maxLen; omega) (by omega) hB
    exact ⟨v', w', hr, by unfold OST; rw [List.map_append, List.length_append]; exact ho, hg⟩
theorem run_lits (W : World) : (Instr.buildSlice 57 0 #[]).run Try.prog W = .ok (.slice (some ⟨W.heap.size, 0, none⟩) 0 0) (W.alloc (.cells #[] 9)) := by
  obtain ⟨i0, hi0, hz⟩ := Option.map_eq_some_iff.1 infos15
  simp only [Prod.mk.injEq] at hz
  simp [Instr.buildSlice, run_underlying Try.underlying57, sizeOf, typeInfo, hi0, Instr.fill, newRow]
  try exact congrArg (fun x => W.alloc (Obj.cells x 9)) (Array.eq_empty_of_size_eq_zero (by simp))
theorem run_litsd (W : World) : (Instr.buildSlice 57 0 #[]).run Try.prog W.drew = .ok (.slice (some ⟨W.heap.size, 0, none⟩) 0 0) (W.drew.alloc (.cells #[] 9)) := run_lits W.drew
theorem own_lits (w : World) (B : Nat) (hB : B ≤ w.heap.size) : OST (w.drew.alloc (.cells #[] 9)) B (.slice (some ⟨w.heap.size, 0, none⟩) 0 0) [] :=
  ⟨rfl, .inr ⟨w.heap.size, 0, #[], rfl, hB, heap_alloc_new w.drew _, Nat.le_refl _, by decide, rfl, rfl⟩⟩
/-- append(append([]string{}, S[k:]...), S[:k]...). -/
theorem turn15 {w : World} {n cap k : Nat} {a : Option Addr} {S : List ByteArray} (h : SS w (.slice a n cap) S) (hl : S.length = n) (hk : k ≤ n) (hn : n ≤ 1000) (ty : TypeId) :
    ∃ a1 a2 v8 w8 a9 c9 w9, (∀ W, (Instr.slice 57 (.slice a n cap) (some (.int .i64 (k : Int))) none none).run Try.prog W = .ok (.slice a1 (n - k) (cap - k)) W) ∧
      (∀ W, (Instr.slice 57 (.slice a n cap) none (some (.int .i64 (k : Int))) none).run Try.prog W = .ok (.slice a2 k cap) W) ∧
      (Builtin.append_ #[57, 57] ty #[.slice (some ⟨w.heap.size, 0, none⟩) 0 0, .slice a1 (n - k) (cap - k)]).run Try.prog (w.drew.alloc (.cells #[] 9)) = .ok v8 w8 ∧
      (Builtin.append_ #[57, 57] ty #[v8, .slice a2 k cap]).run Try.prog w8 = .ok (.slice a9 n c9) w9 ∧ SS w9 (.slice a9 n c9) (S.drop k ++ S.take k) ∧ Below w.heap.size w w9 := by
  obtain ⟨a1, r1, p1⟩ := ss_drop w a n cap k S h hk
  obtain ⟨a2, r2, p2⟩ := ss_take w a n cap k S h hk
  have hWl := ((Below.refl w.heap.size w).drew).alloc (Nat.le_refl _) (.cells #[] 9)
  have hd : (S.drop k).length = n - k := by rw [List.length_drop, hl]
  have ht : (S.take k).length = k := by rw [List.length_take]; omega
  have hsz : w.heap.size ≤ (w.drew.alloc (.cells #[] 9)).heap.size := hWl.size
  obtain ⟨v8, w8, q1, o1, g1⟩ := ost_app (own_lits w w.heap.size (Nat.le_refl _)) hsz (p1.below hWl) (by rw [hd, List.length_nil]; omega) ty
  have hb8 := hWl.grown g1 hsz (fun k hk => by simp [Value.ownBlock] at hk; omega)
  obtain ⟨v9, w9, q2, o2, g2⟩ := ost_app o1 hb8.size (p2.below hb8) (by rw [ht, List.nil_append, hd]; omega) ty
  have hs9 := ss_own o2
  obtain ⟨a9, c9, rfl, hc9, hx9⟩ := id hs9
  have hl9 : (([] ++ S.drop k) ++ S.take k).length = n := by rw [List.nil_append, List.length_append, hd, ht]; omega
  rw [hl9] at q2 hs9
  exact ⟨a1, a2, v8, w8, a9, c9, w9, r1, r2, q1, q2, hs9, hb8.grown g2 hb8.size (fun k hk => (World.ownsRow.lt o1 k hk).1)⟩
/-- A struct built in a guarded operation that is wanted. -/
theorem build_guarded15 {P : Program} {ops : Array Oper} {rest : List Oper} {o : Oper} {a : Act} {w : World} {Q : Exit → Act → World → Prop} (hw : Region.wanted o (yielded ops a.tmps) = true) (t : TypeId) (parts : Array (Nat × Operand)) (ho : o.op = .build t parts) (vs : Array (Nat × Value)) (hv : (parts.map fun (i, x) => (i, a.eval x)) = vs)
    (v : Value) (hr : (Instr.build t vs).run P w = .ok v w) (h : wpList P ops Q rest (a.put o.dst v) w) : wpList P ops Q (o :: rest) a w :=
  wpList_step fun _ hK => by
    rw [if_pos hw]
    subst hv
    unfold Oper.wp execOp
    simp only [ho, Sem.run_bind, hr, Result.andThen_ok]
    exact hK _ _ h
end Go.Proofs.Ytkafabcklohlmaa
