/-
  What datasets become by an act, as plain functions; what comes of some that may be all there are may be that again.
-/
import Derived.Test.YtkafabcklohlmaaIa
namespace Go.Proofs.Ytkafabcklohlmaa
set_option maxRecDepth 4000
set_option linter.unusedVariables false
open Go.ChangeShapes Go.WideShapes Go.ChangeAt Go.RowKit

def noS : ByteArray := ⟨#[]⟩
theorem noS_size {s : ByteArray} : s.size = 0 ↔ s = noS := by
  constructor
  · intro h
    exact ByteArray.ext (Array.eq_empty_of_size_eq_zero h)
  · rintro rfl; rfl
def mayN (s : ByteArray) : Bool := decide (1 ≤ s.size) && decide (s.size ≤ 32)
theorem mayN_iff {s : ByteArray} : mayN s = true ↔ 1 ≤ s.size ∧ s.size ≤ 32 := by simp [mayN]
def okS (s : SetV) : Bool := mayN s.nm && (decide (s.fr.size ≤ 32) && (!(s.sn && decide (s.fr = noS)) && mayB s.rt 4096))
def checkS (s : SetV) : Int := if okS s then 0 else 4
theorem checkS_0 {s : SetV} : checkS s = 0 ↔ okS s = true := by unfold checkS; split <;> simp_all
theorem okS_ok {s : SetV} (h : okS s = true) : SetOk s := by
  unfold okS at h
  simp only [Bool.and_eq_true, decide_eq_true_eq, mayN_iff] at h
  exact ⟨by omega, by omega⟩
theorem okS_nm {s : SetV} (h : okS s = true) : 1 ≤ s.nm.size ∧ s.nm.size ≤ 32 := by
  unfold okS at h
  simp only [Bool.and_eq_true, mayN_iff] at h
  exact h.1
def nms (l : List SetV) : List ByteArray := l.map (·.nm)
theorem mem_nms {l : List SetV} {n : ByteArray} : n ∈ nms l ↔ ∃ s ∈ l, s.nm = n := by simp [nms]
def atN (l : List SetV) (n : ByteArray) : Option SetV := l.find? (fun s => decide (s.nm = n))
def orgOk (l : List SetV) (s : SetV) : Bool := decide (s.fr = noS) || (match atN l s.fr with | some t => t.sn != s.sn | none => false)
instance risDec (l : List ByteArray) : Decidable (Rising l) := inferInstanceAs (Decidable (l.Pairwise (fun a b => lo a b = true)))
def validB (l : List SetV) : Bool := (l.all okS && decide (Rising (nms l))) && l.all (orgOk l)
def validE (l : List SetV) : Int := if validB l then 0 else 4
theorem validE_0 {l : List SetV} : validE l = 0 ↔ validB l = true := by unfold validE; split <;> simp_all
/-- Whose From it is. -/
def OrgP (l : List SetV) (s : SetV) : Prop := s.fr = noS ∨ ∃ t ∈ l, t.nm = s.fr ∧ t.sn = !s.sn
structure VL (l : List SetV) : Prop where
  ok : ∀ s ∈ l, okS s = true
  ris : Rising (nms l)
  org : ∀ s ∈ l, OrgP l s
theorem rising_ne {l : List ByteArray} (h : Rising l) : l.Nodup := by
  refine h.imp fun {a b} e => ?_
  intro e2
  rw [e2, lo_irr] at e
  cases e
theorem nm_inj {l : List SetV} (h : Rising (nms l)) {s t : SetV} (hs : s ∈ l) (ht : t ∈ l) (e : s.nm = t.nm) : s = t := by
  obtain ⟨i, hi, rfl⟩ := List.getElem_of_mem hs
  obtain ⟨j, hj, rfl⟩ := List.getElem_of_mem ht
  have h2 := List.pairwise_iff_getElem.1 h
  rcases Nat.lt_trichotomy i j with c | c | c
  · have := h2 i j (by simpa [nms] using hi) (by simpa [nms] using hj) c
    simp only [nms, List.getElem_map] at this
    rw [e, lo_irr] at this
    cases this
  · subst c; rfl
  · have := h2 j i (by simpa [nms] using hj) (by simpa [nms] using hi) c
    simp only [nms, List.getElem_map] at this
    rw [e, lo_irr] at this
    cases this
theorem atN_some {l : List SetV} (h : Rising (nms l)) {n : ByteArray} {t : SetV} : atN l n = some t ↔ t ∈ l ∧ t.nm = n := by
  constructor
  · intro e
    have h1 := List.find?_some e
    exact ⟨List.mem_of_find?_eq_some e, by simpa using h1⟩
  · rintro ⟨ht, rfl⟩
    unfold atN
    cases e : l.find? (fun s => decide (s.nm = t.nm)) with
    | none =>
      have := List.find?_eq_none.1 e t ht
      simp at this
    | some u =>
      have h1 := List.find?_some e
      rw [nm_inj h ht (List.mem_of_find?_eq_some e) (by simpa using Eq.symm (of_decide_eq_true h1))]
theorem atN_none {l : List SetV} {n : ByteArray} : atN l n = none ↔ n ∉ nms l := by
  unfold atN
  rw [List.find?_eq_none, mem_nms]
  constructor
  · rintro h ⟨s, hs, e⟩; exact h s hs (by simpa using e)
  · intro h s hs e; exact h ⟨s, hs, by simpa using e⟩
theorem atN_has (l : List SetV) (n : ByteArray) : (atN l n).isSome = hasK (nms l) n := by
  cases e : atN l n with
  | none =>
    symm
    rw [Option.isSome_none, ← Bool.not_eq_true, hasK_iff]
    exact atN_none.1 e
  | some t =>
    symm
    rw [Option.isSome_some, hasK_iff]
    refine Classical.byContradiction fun h => ?_
    rw [atN_none.2 h] at e
    cases e
theorem org_iff {l : List SetV} (h : Rising (nms l)) (s : SetV) : orgOk l s = true ↔ OrgP l s := by
  unfold orgOk OrgP
  rw [Bool.or_eq_true, decide_eq_true_iff]
  refine or_congr Iff.rfl ?_
  cases e : atN l s.fr with
  | none =>
    simp only [Bool.false_eq_true, false_iff]
    rintro ⟨t, ht, e1, _⟩
    exact atN_none.1 e (mem_nms.2 ⟨t, ht, e1⟩)
  | some t =>
    obtain ⟨h1, h2⟩ := (atN_some h).1 e
    simp only
    constructor
    · intro h3; exact ⟨t, h1, h2, by revert h3; cases t.sn <;> cases s.sn <;> simp⟩
    · rintro ⟨u, hu, e1, e2⟩
      rw [nm_inj h h1 hu (by rw [h2, e1]), e2]
      cases s.sn <;> rfl
theorem valid_iff {l : List SetV} : validB l = true ↔ VL l := by
  unfold validB
  rw [Bool.and_eq_true, Bool.and_eq_true, decide_eq_true_iff, List.all_eq_true, List.all_eq_true]
  constructor
  · rintro ⟨⟨h1, h2⟩, h3⟩
    exact ⟨h1, h2, fun s hs => (org_iff h2 s).1 (h3 s hs)⟩
  · rintro ⟨h1, h2, h3⟩
    exact ⟨⟨h1, h2⟩, fun s hs => (org_iff h2 s).2 (h3 s hs)⟩
theorem vl_nil : VL [] := ⟨nofun, List.Pairwise.nil, nofun⟩
theorem VL.okk {l : List SetV} (h : VL l) : ∀ s ∈ l, SetOk s := fun s hs => okS_ok (h.ok s hs)
/-- A dataset is of none but itself's other kind, so not of itself. -/
theorem VL.self {l : List SetV} (h : VL l) {s : SetV} (hs : s ∈ l) : s.fr ≠ s.nm := by
  intro e
  rcases h.org s hs with h1 | ⟨t, ht, e1, e2⟩
  · have := (okS_nm (h.ok s hs)).1
    rw [← e, h1] at this
    exact absurd this (by decide)
  · have := nm_inj h.ris ht hs (by rw [e1, e])
    subst this
    cases e3 : t.sn <;> rw [e3] at e2 <;> cases e2
/-! ### lists by their ranks -/
theorem rank_facts {l : List SetV} (h : Rising (nms l)) (n : ByteArray) :
    l.filter (fun x => lo x.nm n) = l.take (rankK (nms l) n) ∧ atN l n = (if hasK (nms l) n then l[rankK (nms l) n]? else none) ∧
    (hasK (nms l) n = false → l.filter (fun x => lo n x.nm) = l.drop (rankK (nms l) n)) ∧
    (hasK (nms l) n = true → l.filter (fun x => decide (x.nm ≠ n)) = l.take (rankK (nms l) n) ++ l.drop (rankK (nms l) n + 1) ∧ rankK (nms l) n < l.length) ∧ rankK (nms l) n ≤ l.length := by
  induction l with
  | nil => exact ⟨rfl, rfl, fun _ => rfl, fun h => by simp [nms, hasK] at h, Nat.le_refl _⟩
  | cons a l ih =>
    have hp := List.pairwise_cons.1 h
    obtain ⟨i1, i2, i3, i4, i5⟩ := ih hp.2
    have hlt : ∀ x ∈ l, lo a.nm x.nm = true := fun x hx => hp.1 x.nm (mem_nms.2 ⟨x, hx, rfl⟩)
    have er : rankK (nms (a :: l)) n = rankK (nms l) n + (if lo a.nm n = true then 1 else 0) := by unfold rankK nms; rw [List.map_cons, List.countP_cons]
    have eh : hasK (nms (a :: l)) n = (decide (a.nm = n) || hasK (nms l) n) := by unfold hasK nms; rw [List.map_cons, List.any_cons]
    rcases lo_tri a.nm n with c | c | c
    · have hne : a.nm ≠ n := fun e => by rw [e, lo_irr] at c; cases c
      rw [c, if_pos rfl] at er
      rw [decide_eq_false hne, Bool.false_or] at eh
      rw [er, eh]
      refine ⟨by rw [List.filter_cons_of_pos (by exact c), i1, List.take_succ_cons], ?_, fun h => ?_, fun h => ?_, by rw [List.length_cons]; omega⟩
      · unfold atN
        rw [List.find?_cons_of_neg (by simpa using hne), List.getElem?_cons_succ]
        exact i2
      · rw [List.filter_cons_of_neg (by rw [lo_asymm c]; decide), i3 h, List.drop_succ_cons]
      · rw [List.filter_cons_of_pos (by simpa using hne), (i4 h).1, List.take_succ_cons, List.drop_succ_cons, List.cons_append]
        exact ⟨rfl, by have := (i4 h).2; rw [List.length_cons]; omega⟩
    · subst c
      have h0 : ∀ x ∈ l, lo x.nm a.nm = false := fun x hx => lo_asymm (hlt x hx)
      have hr0 : rankK (nms l) a.nm = 0 := by
        unfold rankK
        rw [List.countP_eq_zero]
        intro y hy
        obtain ⟨x, hx, rfl⟩ := mem_nms.1 hy
        rw [h0 x hx]; decide
      rw [lo_irr, if_neg (by decide), hr0] at er
      rw [decide_eq_true rfl, Bool.true_or] at eh
      rw [er, eh]
      refine ⟨?_, ?_, fun h => (by cases h), fun _ => ?_, Nat.zero_le _⟩
      · rw [List.filter_eq_nil_iff.2]
        · rfl
        · intro x hx
          rcases List.mem_cons.1 hx with rfl | hx
          · rw [lo_irr]; decide
          · rw [h0 x hx]; decide
      · unfold atN
        rw [List.find?_cons_of_pos (by simp)]
        rfl
      · rw [List.filter_cons_of_neg (by simp), List.filter_eq_self.2]
        · exact ⟨rfl, by rw [List.length_cons]; omega⟩
        · intro x hx
          rw [decide_eq_true_iff]
          intro e
          have := hlt x hx
          rw [e, lo_irr] at this
          cases this
    · have hall : ∀ x ∈ l, lo n x.nm = true := fun x hx => lo_trans c (hlt x hx)
      have h0 : ∀ x ∈ a :: l, lo x.nm n = false := fun x hx => by
        rcases List.mem_cons.1 hx with rfl | hx
        · exact lo_asymm c
        · exact lo_asymm (hall x hx)
      have hne : ∀ x ∈ a :: l, x.nm ≠ n := fun x hx e => by
        rcases List.mem_cons.1 hx with rfl | hx
        · rw [e, lo_irr] at c; cases c
        · have := hall x hx; rw [e, lo_irr] at this; cases this
      have hr0 : rankK (nms (a :: l)) n = 0 := by
        unfold rankK
        rw [List.countP_eq_zero]
        intro y hy
        obtain ⟨x, hx, rfl⟩ := mem_nms.1 hy
        rw [h0 x hx]; decide
      have hh : hasK (nms (a :: l)) n = false := by
        rw [← Bool.not_eq_true, hasK_iff, mem_nms]
        rintro ⟨x, hx, e⟩
        exact hne x hx e
      rw [hr0, hh]
      refine ⟨?_, ?_, fun _ => ?_, fun h => (by cases h), Nat.zero_le _⟩
      · rw [List.filter_eq_nil_iff.2 (fun x hx => by rw [h0 x hx]; decide)]; rfl
      · rw [if_neg (by decide)]
        exact List.find?_eq_none.2 (fun x hx => by simpa using hne x hx)
      · rw [List.filter_eq_self.2 (fun x hx => ?_)]
        · rfl
        · rcases List.mem_cons.1 hx with rfl | hx
          · exact c
          · exact hall x hx
/-! ### acts -/
def findD (l : List SetV) (n : ByteArray) : SetV × Int := if validB l then (match atN l n with | some s => (s, 0) | none => (zeroSet, 8)) else (zeroSet, 4)
def freshE (l : List SetV) (n : ByteArray) : Int := if mayN n then (if hasK (nms l) n then 9 else 0) else 2
def withL (l : List SetV) (s : SetV) : List SetV := l.filter (fun x => lo x.nm s.nm) ++ s :: l.filter (fun x => lo s.nm x.nm)
def lessL (l : List SetV) (n : ByteArray) : List SetV := l.filter (fun x => decide (x.nm ≠ n))
def addD (l : List SetV) (s : SetV) : Int × List SetV := if freshE l s.nm = 0 then (0, withL l s) else (freshE l s.nm, [])
def createD (l : List SetV) (n : ByteArray) : Int × List SetV := if validB l then addD l ⟨n, noS, false, zeroPtr⟩ else (4, [])
def snapD (l : List SetV) (o n : ByteArray) : Int × List SetV := if (findD l o).2 = 0 then (if (findD l o).1.sn then (10, []) else addD l ⟨n, o, true, (findD l o).1.rt⟩) else ((findD l o).2, [])
def cloneD (l : List SetV) (o n : ByteArray) : Int × List SetV := if (findD l o).2 = 0 then (if (findD l o).1.sn then addD l ⟨n, o, false, (findD l o).1.rt⟩ else (2, [])) else ((findD l o).2, [])
def usedB (l : List SetV) (n : ByteArray) : Bool := l.any (fun s => decide (s.fr = n))
def destD (l : List SetV) (n : ByteArray) : Int × List SetV := if (findD l n).2 = 0 then (if usedB l n then (11, []) else (0, lessL l n)) else ((findD l n).2, [])
def renS (o n : ByteArray) (s : SetV) : SetV := if s.fr = o then ⟨s.nm, n, s.sn, s.rt⟩ else s
def renL (l : List SetV) (o n : ByteArray) (s : SetV) : List SetV := withL ((lessL l o).map (renS o n)) ⟨n, s.fr, s.sn, s.rt⟩
def renD (l : List SetV) (o n : ByteArray) : Int × List SetV := if (findD l o).2 = 0 then (if freshE l n = 0 then (0, renL l o n (findD l o).1) else (freshE l n, [])) else ((findD l o).2, [])
def doD (l : List SetV) (k : Int) (a b : ByteArray) : Int × List SetV :=
  if k = 1 then snapD l a b else if k = 2 then cloneD l a b else if k = 3 then destD l a else if k = 4 then renD l a b else createD l a
theorem find_cases (l : List SetV) (n : ByteArray) (h : (findD l n).2 = 0) : VL l ∧ (findD l n).1 ∈ l ∧ (findD l n).1.nm = n := by
  unfold findD at h ⊢
  split at h
  · rename_i hv
    have hv' := valid_iff.1 hv
    rw [if_pos hv]
    cases e : atN l n with
    | none => rw [e] at h; cases h
    | some s => obtain ⟨h1, h2⟩ := (atN_some hv'.ris).1 e; exact ⟨hv', h1, h2⟩
  · cases h
theorem find_mem {l : List SetV} (hv : VL l) {s : SetV} (hs : s ∈ l) : findD l s.nm = (s, 0) := by
  unfold findD
  rw [if_pos (valid_iff.2 hv), (atN_some hv.ris).2 ⟨hs, rfl⟩]
theorem find_not {l : List SetV} (hv : VL l) {n : ByteArray} (hs : n ∉ nms l) : findD l n = (zeroSet, 8) := by
  unfold findD
  rw [if_pos (valid_iff.2 hv), atN_none.2 hs]
theorem fresh_iff {l : List SetV} {n : ByteArray} : freshE l n = 0 ↔ (1 ≤ n.size ∧ n.size ≤ 32) ∧ n ∉ nms l := by
  unfold freshE
  by_cases h1 : mayN n = true
  · rw [if_pos h1]
    rw [mayN_iff] at h1
    cases h2 : hasK (nms l) n with
    | true => simp [hasK_iff.1 h2]
    | false =>
      have : n ∉ nms l := fun h => by rw [hasK_iff.2 h] at h2; cases h2
      simp [h1, this]
  · rw [if_neg h1]
    rw [mayN_iff] at h1
    constructor
    · intro h; cases h
    · rintro ⟨h, _⟩; exact absurd h h1
theorem fresh_two {l : List SetV} {n : ByteArray} : freshE l n = 0 ∨ freshE l n = 2 ∨ freshE l n = 9 := by
  unfold freshE; split
  · split
    · exact .inr (.inr rfl)
    · exact .inl rfl
  · exact .inr (.inl rfl)
theorem mem_with {l : List SetV} {s x : SetV} (h : s.nm ∉ nms l) : x ∈ withL l s ↔ x = s ∨ x ∈ l := by
  unfold withL
  rw [List.mem_append, List.mem_cons, List.mem_filter, List.mem_filter]
  constructor
  · rintro (⟨h1, _⟩ | rfl | ⟨h1, _⟩)
    · exact .inr h1
    · exact .inl rfl
    · exact .inr h1
  · rintro (rfl | hx)
    · exact .inr (.inl rfl)
    · rcases lo_tri x.nm s.nm with c | c | c
      · exact .inl ⟨hx, c⟩
      · exact absurd (mem_nms.2 ⟨x, hx, c⟩) h
      · exact .inr (.inr ⟨hx, c⟩)
theorem nms_sub {l m : List SetV} (h : m.Sublist l) (hr : Rising (nms l)) : Rising (nms m) := List.Pairwise.sublist (h.map _) hr
theorem ris_with {l : List SetV} (h : Rising (nms l)) (s : SetV) : Rising (nms (withL l s)) := by
  unfold withL Rising nms
  rw [List.map_append, List.map_cons, List.pairwise_append]
  refine ⟨nms_sub List.filter_sublist h, List.pairwise_cons.2 ⟨fun y hy => ?_, nms_sub List.filter_sublist h⟩, fun x hx y hy => ?_⟩
  · obtain ⟨z, hz, rfl⟩ := List.mem_map.1 hy
    exact (List.mem_filter.1 hz).2
  · obtain ⟨u, hu, rfl⟩ := List.mem_map.1 hx
    have h1 := (List.mem_filter.1 hu).2
    rcases List.mem_cons.1 hy with rfl | hy
    · exact h1
    · obtain ⟨z, hz, rfl⟩ := List.mem_map.1 hy
      exact lo_trans h1 (List.mem_filter.1 hz).2
theorem len_with {l : List SetV} (h : Rising (nms l)) {s : SetV} (hn : s.nm ∉ nms l) : (withL l s).length = l.length + 1 := by
  obtain ⟨h1, _, h3, _, h5⟩ := rank_facts h s.nm
  unfold withL
  rw [h1, h3 (by rw [← Bool.not_eq_true, hasK_iff]; exact hn), List.length_append, List.length_cons, List.length_take, List.length_drop]
  omega
theorem len_less {l : List SetV} (h : Rising (nms l)) {n : ByteArray} (hn : n ∈ nms l) : (lessL l n).length + 1 = l.length := by
  obtain ⟨_, _, _, h4, h5⟩ := rank_facts h n
  obtain ⟨h6, h7⟩ := h4 (hasK_iff.2 hn)
  unfold lessL
  rw [h6, List.length_append, List.length_take, List.length_drop]
  omega
theorem mem_less {l : List SetV} {n : ByteArray} {x : SetV} : x ∈ lessL l n ↔ x ∈ l ∧ x.nm ≠ n := by unfold lessL; rw [List.mem_filter, decide_eq_true_iff]
theorem vl_with {l : List SetV} (hv : VL l) {s : SetV} (ho : okS s = true) (hn : s.nm ∉ nms l) (hg : OrgP l s) : VL (withL l s) := by
  have sub : ∀ t ∈ l, t ∈ withL l s := fun t ht => (mem_with hn).2 (.inr ht)
  refine ⟨fun x hx => ?_, ris_with hv.ris s, fun x hx => ?_⟩
  · rcases (mem_with hn).1 hx with rfl | hx
    · exact ho
    · exact hv.ok x hx
  · have h : OrgP l x := by
      rcases (mem_with hn).1 hx with rfl | hx
      · exact hg
      · exact hv.org x hx
    exact h.imp id (fun ⟨t, ht, e⟩ => ⟨t, sub t ht, e⟩)
theorem vl_less {l : List SetV} (hv : VL l) {n : ByteArray} (hu : usedB l n = false) : VL (lessL l n) := by
  have hne : ∀ x ∈ l, x.fr ≠ n := fun x hx e => by
    have : usedB l n = true := by unfold usedB; rw [List.any_eq_true]; exact ⟨x, hx, by simpa using e⟩
    rw [hu] at this; cases this
  refine ⟨fun x hx => hv.ok x (mem_less.1 hx).1, nms_sub List.filter_sublist hv.ris, fun x hx => ?_⟩
  have hx' := (mem_less.1 hx).1
  exact (hv.org x hx').imp id (fun ⟨t, ht, e1, e2⟩ => ⟨t, mem_less.2 ⟨ht, by rw [e1]; exact hne x hx'⟩, e1, e2⟩)
theorem renS_nm (o n : ByteArray) (s : SetV) : (renS o n s).nm = s.nm ∧ (renS o n s).sn = s.sn ∧ (renS o n s).rt = s.rt := by unfold renS; split <;> exact ⟨rfl, rfl, rfl⟩
theorem nms_ren (o n : ByteArray) (l : List SetV) : nms (l.map (renS o n)) = nms l := by
  unfold nms
  rw [List.map_map]
  exact List.map_congr_left (fun s _ => (renS_nm o n s).1)
theorem ok_new {n f : ByteArray} {b : Bool} {r : PtrV} (hn : 1 ≤ n.size ∧ n.size ≤ 32) (hf : f.size ≤ 32) (h : b = true → f ≠ noS) (hr : mayB r 4096 = true) : okS ⟨n, f, b, r⟩ = true := by
  unfold okS
  simp only [Bool.and_eq_true, decide_eq_true_eq, mayN_iff, Bool.not_eq_true', Bool.and_eq_false_iff, decide_eq_false_iff_not]
  exact ⟨hn, hf, by cases b; exact .inl rfl; exact .inr (h rfl), hr⟩
theorem ok_parts {s : SetV} (h : okS s = true) : s.fr.size ≤ 32 ∧ (s.sn = true → s.fr ≠ noS) ∧ mayB s.rt 4096 = true := by
  unfold okS at h
  simp only [Bool.and_eq_true, decide_eq_true_eq, mayN_iff, Bool.not_eq_true', Bool.and_eq_false_iff, decide_eq_false_iff_not] at h
  exact ⟨h.2.1, fun e => by rcases h.2.2.1 with h | h; · rw [e] at h; cases h
                            · exact h, h.2.2.2⟩
theorem nmem_ren {l : List SetV} {o n : ByteArray} (hn : n ∉ nms l) : n ∉ nms ((lessL l o).map (renS o n)) := by
  rw [nms_ren]
  intro h
  obtain ⟨x, hx, e⟩ := mem_nms.1 h
  exact hn (mem_nms.2 ⟨x, (mem_less.1 hx).1, e⟩)
theorem vl_ren {l : List SetV} (hv : VL l) {s : SetV} (hs : s ∈ l) {n : ByteArray} (hz : 1 ≤ n.size ∧ n.size ≤ 32) (hn : n ∉ nms l) : VL (renL l s.nm n s) := by
  have hnm : n ∉ nms ((lessL l s.nm).map (renS s.nm n)) := nmem_ren hn
  have hns : n ≠ noS := fun e => by rw [e] at hz; exact absurd hz.1 (by decide)
  have hp := ok_parts (hv.ok s hs)
  have hM : ∀ {x : SetV}, x ∈ renL l s.nm n s ↔ x = ⟨n, s.fr, s.sn, s.rt⟩ ∨ ∃ y ∈ l, y.nm ≠ s.nm ∧ renS s.nm n y = x := fun {x} => by
    unfold renL
    rw [mem_with (by exact hnm), List.mem_map]
    refine or_congr Iff.rfl ⟨?_, ?_⟩
    · rintro ⟨y, hy, e⟩; exact ⟨y, (mem_less.1 hy).1, (mem_less.1 hy).2, e⟩
    · rintro ⟨y, hy, h1, e⟩; exact ⟨y, mem_less.2 ⟨hy, h1⟩, e⟩
  refine ⟨fun x hx => ?_, ris_with (by rw [nms_ren]; exact nms_sub List.filter_sublist hv.ris) _, fun x hx => ?_⟩
  · rcases hM.1 hx with rfl | ⟨y, hy, _, rfl⟩
    · exact ok_new hz hp.1 hp.2.1 hp.2.2
    · have hy2 := ok_parts (hv.ok y hy)
      unfold renS
      split
      · exact ok_new (okS_nm (hv.ok y hy)) hz.2 (fun _ => hns) hy2.2.2
      · exact hv.ok y hy
  · rcases hM.1 hx with rfl | ⟨y, hy, hyn, rfl⟩
    · rcases hv.org s hs with h | ⟨t, ht, e1, e2⟩
      · exact .inl h
      · have hne : t.nm ≠ s.nm := by rw [e1]; exact hv.self hs
        refine .inr ⟨renS s.nm n t, hM.2 (.inr ⟨t, ht, hne, rfl⟩), ?_, ?_⟩
        · rw [(renS_nm _ _ t).1]; exact e1
        · rw [(renS_nm _ _ t).2.1]; exact e2
    · by_cases hf : y.fr = s.nm
      · have e : renS s.nm n y = ⟨y.nm, n, y.sn, y.rt⟩ := by unfold renS; rw [if_pos hf]
        rw [e]
        rcases hv.org y hy with h | ⟨t, ht, e1, e2⟩
        · have := (okS_nm (hv.ok s hs)).1
          rw [← hf, h] at this
          exact absurd this (by decide)
        · obtain rfl := nm_inj hv.ris ht hs (by rw [e1, hf])
          exact .inr ⟨_, hM.2 (.inl rfl), rfl, e2⟩
      · have e : renS s.nm n y = y := by unfold renS; rw [if_neg hf]
        rw [e]
        rcases hv.org y hy with h | ⟨t, ht, e1, e2⟩
        · exact .inl h
        · refine .inr ⟨renS s.nm n t, hM.2 (.inr ⟨t, ht, by rw [e1]; exact hf, rfl⟩), ?_, ?_⟩
          · rw [(renS_nm _ _ t).1]; exact e1
          · rw [(renS_nm _ _ t).2.1]; exact e2
theorem len_ren {l : List SetV} (hv : VL l) {s : SetV} (hs : s ∈ l) {n : ByteArray} (hn : n ∉ nms l) : (renL l s.nm n s).length = l.length := by
  unfold renL
  rw [len_with (by rw [nms_ren]; exact nms_sub List.filter_sublist hv.ris) (by exact nmem_ren hn), List.length_map]
  exact len_less hv.ris (mem_nms.2 ⟨s, hs, rfl⟩)
/-- How many there are behind an act. -/
def lenD (n : Nat) (k : Int) : Int := if k = 3 then (n : Int) - 1 else if k = 4 then n else (n : Int) + 1
theorem add_valid {l : List SetV} (hv : VL l) {s : SetV} (ho : (1 ≤ s.nm.size ∧ s.nm.size ≤ 32) → okS s = true) (hg : OrgP l s) (h : (addD l s).1 = 0) : (addD l s).2 = withL l s ∧ freshE l s.nm = 0 ∧ VL (withL l s) ∧ (withL l s).length = l.length + 1 := by
  unfold addD at h ⊢
  by_cases hf : freshE l s.nm = 0
  · rw [if_pos hf]
    obtain ⟨h1, h2⟩ := fresh_iff.1 hf
    exact ⟨rfl, hf, vl_with hv (ho h1) h2 hg, len_with hv.ris h2⟩
  · rw [if_neg hf] at h
    exact absurd h hf
theorem mayB_zero : mayB zeroPtr 4096 = true := by decide
theorem do_valid {l : List SetV} (hv : VL l) (k : Int) (a b : ByteArray) (h : (doD l k a b).1 = 0) : VL (doD l k a b).2 ∧ ((doD l k a b).2.length : Int) = lenD l.length k := by
  unfold doD at h ⊢
  unfold lenD
  by_cases h1 : k = 1
  · subst h1
    rw [if_pos rfl] at h ⊢
    rw [if_neg (by decide), if_neg (by decide)]
    unfold snapD at h ⊢
    by_cases hf : (findD l a).2 = 0
    · obtain ⟨_, hm, hn⟩ := find_cases l a hf
      rw [if_pos hf] at h ⊢
      cases hs : (findD l a).1.sn with
      | true => rw [hs, if_pos rfl] at h; cases h
      | false =>
        rw [hs, if_neg (by decide)] at h
        rw [if_neg (by decide)]
        have hp := ok_parts (hv.ok _ hm)
        have hq := okS_nm (hv.ok _ hm)
        rw [hn] at hq
        obtain ⟨e, _, h2, h3⟩ := add_valid hv (fun hz => ok_new hz hq.2 (fun _ e => by rw [e] at hq; exact absurd hq.1 (by decide)) hp.2.2) (.inr ⟨_, hm, hn, by rw [hs]; rfl⟩) h
        rw [e]
        exact ⟨h2, by rw [h3]; push_cast; rfl⟩
    · rw [if_neg hf] at h; exact absurd h hf
  · rw [if_neg h1] at h ⊢
    by_cases h2 : k = 2
    · subst h2
      rw [if_pos rfl] at h ⊢
      rw [if_neg (by decide), if_neg (by decide)]
      unfold cloneD at h ⊢
      by_cases hf : (findD l a).2 = 0
      · obtain ⟨_, hm, hn⟩ := find_cases l a hf
        rw [if_pos hf] at h ⊢
        cases hs : (findD l a).1.sn with
        | false => rw [hs, if_neg (by decide)] at h; cases h
        | true =>
          rw [hs, if_pos rfl] at h
          rw [if_pos rfl]
          have hp := ok_parts (hv.ok _ hm)
          have hq := okS_nm (hv.ok _ hm)
          rw [hn] at hq
          obtain ⟨e, _, h2, h3⟩ := add_valid hv (fun hz => ok_new hz hq.2 (fun e => by cases e) hp.2.2) (.inr ⟨_, hm, hn, by rw [hs]; rfl⟩) h
          rw [e]
          exact ⟨h2, by rw [h3]; push_cast; rfl⟩
      · rw [if_neg hf] at h; exact absurd h hf
    · rw [if_neg h2] at h ⊢
      by_cases h3 : k = 3
      · subst h3
        rw [if_pos rfl] at h ⊢
        rw [if_pos rfl]
        unfold destD at h ⊢
        by_cases hf : (findD l a).2 = 0
        · obtain ⟨_, hm, hn⟩ := find_cases l a hf
          rw [if_pos hf] at h ⊢
          cases hu : usedB l a with
          | true => rw [hu, if_pos rfl] at h; cases h
          | false =>
            rw [if_neg (by decide)]
            have := len_less hv.ris (mem_nms.2 ⟨_, hm, hn⟩)
            exact ⟨vl_less hv hu, by show ((lessL l a).length : Int) = _; omega⟩
        · rw [if_neg hf] at h; exact absurd h hf
      · rw [if_neg h3] at h ⊢
        rw [if_neg h3]
        by_cases h4 : k = 4
        · subst h4
          rw [if_pos rfl] at h ⊢
          rw [if_pos rfl]
          unfold renD at h ⊢
          by_cases hf : (findD l a).2 = 0
          · obtain ⟨_, hm, hn⟩ := find_cases l a hf
            rw [if_pos hf] at h ⊢
            by_cases hg : freshE l b = 0
            · obtain ⟨hz, hb⟩ := fresh_iff.1 hg
              rw [if_pos hg]
              have h5 := vl_ren hv hm hz hb
              have h6 := len_ren hv hm hb
              rw [hn] at h5 h6
              exact ⟨h5, by show ((renL l a b _).length : Int) = _; rw [h6]⟩
            · rw [if_neg hg] at h; exact absurd h hg
          · rw [if_neg hf] at h; exact absurd h hf
        · rw [if_neg h4] at h ⊢
          rw [if_neg h4]
          unfold createD at h ⊢
          rw [if_pos (valid_iff.2 hv)] at h ⊢
          obtain ⟨e, _, h2, h3⟩ := add_valid (s := ⟨a, noS, false, zeroPtr⟩) hv (fun hz => ok_new hz (by decide) (fun e => by cases e) mayB_zero) (.inl rfl) h
          rw [e]
          exact ⟨h2, by rw [h3]; push_cast; rfl⟩
theorem do_err {l : List SetV} (k : Int) (a b : ByteArray) (h : (doD l k a b).1 ≠ 0) : (doD l k a b).2 = [] := by
  revert h
  unfold doD snapD cloneD destD renD createD addD
  repeat' split
  all_goals (intro h; first | rfl | exact absurd rfl h)
end Go.Proofs.Ytkafabcklohlmaa
