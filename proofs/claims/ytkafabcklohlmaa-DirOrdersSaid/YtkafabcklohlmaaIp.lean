/-
  Datasets: nothing is of itself, by whatever way; renamed and back.
-/
import Derived.Test.YtkafabcklohlmaaIo
namespace Go.Proofs.Ytkafabcklohlmaa
set_option maxRecDepth 4000
set_option linter.unusedVariables false
open Go.ChangeShapes Go.WideShapes Go.ChangeAt Go.RowKit

/-- Each stands behind the one that it is of, in some order of the names. -/
def Acy (L : List SetV) : Prop := ∃ f : ByteArray → Nat, ∀ s ∈ L, s.fr ≠ noS → f s.fr < f s.nm
theorem acy_nil : Acy [] := ⟨fun _ => 0, nofun⟩
theorem VL.frin {L : List SetV} (h : VL L) {s : SetV} (hs : s ∈ L) (hf : s.fr ≠ noS) : s.fr ∈ nms L := by
  rcases h.org s hs with e | ⟨t, ht, e, _⟩
  · exact absurd e hf
  · exact mem_nms.2 ⟨t, ht, e⟩
theorem acy_add {L : List SetV} (hv : VL L) (ha : Acy L) {n o : ByteArray} {b : Bool} {r : PtrV} (hn : n ∉ nms L) (ho : o = noS ∨ o ∈ nms L) : Acy (withL L ⟨n, o, b, r⟩) := by
  obtain ⟨f, hf⟩ := ha
  refine ⟨fun x => if x = n then f o + 1 else f x, fun s hs hs0 => ?_⟩
  rcases (mem_with hn).1 hs with rfl | hs
  · rcases ho with ho | ho
    · exact absurd ho hs0
    · have : o ≠ n := fun e => hn (e ▸ ho)
      show (if o = n then f o + 1 else f o) < (if n = n then f o + 1 else f n)
      rw [if_neg this, if_pos rfl]
      omega
  · have h1 : s.fr ≠ n := fun e => hn (e ▸ hv.frin hs hs0)
    have h2 : s.nm ≠ n := fun e => hn (mem_nms.2 ⟨s, hs, e⟩)
    show (if s.fr = n then f o + 1 else f s.fr) < (if s.nm = n then f o + 1 else f s.nm)
    rw [if_neg h1, if_neg h2]
    exact hf s hs hs0
theorem acy_less {L : List SetV} (ha : Acy L) (n : ByteArray) : Acy (lessL L n) := by
  obtain ⟨f, hf⟩ := ha
  exact ⟨f, fun s hs => hf s (mem_less.1 hs).1⟩
theorem acy_ren {L : List SetV} (hv : VL L) (ha : Acy L) {s : SetV} (hs : s ∈ L) {n : ByteArray} (hn : n ∉ nms L) : Acy (renL L s.nm n s) := by
  obtain ⟨f, hf⟩ := ha
  have ne : ∀ {x}, x ∈ nms L → x ≠ n := fun hx e => hn (e ▸ hx)
  refine ⟨fun x => if x = n then f s.nm else f x, fun x hx hx0 => ?_⟩
  unfold renL at hx
  rw [mem_with (by exact nmem_ren hn), List.mem_map] at hx
  show (if x.fr = n then f s.nm else f x.fr) < (if x.nm = n then f s.nm else f x.nm)
  rcases hx with rfl | ⟨y, hy, rfl⟩
  · rw [if_neg (ne (hv.frin hs hx0)), if_pos rfl]
    exact hf s hs hx0
  · have hy' := (mem_less.1 hy).1
    have hyn : y.nm ≠ n := ne (mem_nms.2 ⟨y, hy', rfl⟩)
    by_cases hc : y.fr = s.nm
    · have e : renS s.nm n y = ⟨y.nm, n, y.sn, y.rt⟩ := by unfold renS; rw [if_pos hc]
      rw [e]
      show (if n = n then f s.nm else f n) < (if y.nm = n then f s.nm else f y.nm)
      rw [if_pos rfl, if_neg hyn, ← hc]
      refine hf y hy' ?_
      rw [hc]
      intro e2
      have := (okS_nm (hv.ok s hs)).1
      rw [e2] at this
      exact absurd this (by decide)
    · have e : renS s.nm n y = y := by unfold renS; rw [if_neg hc]
      rw [e] at hx0 ⊢
      rw [if_neg (ne (hv.frin hy' hx0)), if_neg hyn]
      exact hf y hy' hx0
theorem add_two (L : List SetV) (s : SetV) (h : (addD L s).1 = 0) : (addD L s).2 = withL L s ∧ s.nm ∉ nms L := by
  unfold addD at h ⊢
  by_cases hf : freshE L s.nm = 0
  · rw [if_pos hf]; exact ⟨rfl, (fresh_iff.1 hf).2⟩
  · rw [if_neg hf] at h; exact absurd h hf
theorem do_acy {L : List SetV} (hv : VL L) (ha : Acy L) (k : Int) (a b : ByteArray) (h : (doD L k a b).1 = 0) : Acy (doD L k a b).2 := by
  unfold doD at h ⊢
  split at h
  · rename_i e; rw [if_pos e]
    unfold snapD at h ⊢
    split at h
    · rename_i e; rw [if_pos e]
      obtain ⟨_, hm, hn⟩ := find_cases L a e
      split at h
      · cases h
      · rename_i e; rw [if_neg e]
        obtain ⟨h1, h2⟩ := add_two _ _ h
        rw [h1]
        exact acy_add hv ha h2 (.inr (mem_nms.2 ⟨_, hm, hn⟩))
    · rename_i e; exact absurd h e
  · rename_i e1; rw [if_neg e1]
    split at h
    · rename_i e; rw [if_pos e]
      unfold cloneD at h ⊢
      split at h
      · rename_i e; rw [if_pos e]
        obtain ⟨_, hm, hn⟩ := find_cases L a e
        split at h
        · rename_i e; rw [if_pos e]
          obtain ⟨h1, h2⟩ := add_two _ _ h
          rw [h1]
          exact acy_add hv ha h2 (.inr (mem_nms.2 ⟨_, hm, hn⟩))
        · cases h
      · rename_i e; exact absurd h e
    · rename_i e2; rw [if_neg e2]
      split at h
      · rename_i e; rw [if_pos e]
        unfold destD at h ⊢
        split at h
        · rename_i e; rw [if_pos e]
          split at h
          · cases h
          · rename_i e; rw [if_neg e]
            exact acy_less ha a
        · rename_i e; exact absurd h e
      · rename_i e3; rw [if_neg e3]
        split at h
        · rename_i e; rw [if_pos e]
          unfold renD at h ⊢
          split at h
          · rename_i e; rw [if_pos e]
            obtain ⟨_, hm, hn⟩ := find_cases L a e
            split at h
            · rename_i e; rw [if_pos e]
              have := acy_ren hv ha hm (fresh_iff.1 e).2
              rw [hn] at this
              exact this
            · rename_i e; exact absurd h e
          · rename_i e; exact absurd h e
        · rename_i e4; rw [if_neg e4]
          unfold createD at h ⊢
          split at h
          · rename_i e; rw [if_pos e]
            obtain ⟨h1, h2⟩ := add_two _ _ h
            rw [h1]
            exact acy_add hv ha h2 (.inl rfl)
          · cases h
theorem max_nm (f : ByteArray → Nat) : ∀ L : List SetV, L ≠ [] → ∃ s ∈ L, ∀ t ∈ L, f t.nm ≤ f s.nm
  | [x], _ => ⟨x, List.mem_singleton.2 rfl, fun t ht => by rw [List.mem_singleton.1 ht]; exact Nat.le_refl _⟩
  | x :: y :: r, _ => by
    obtain ⟨s, hs, h⟩ := max_nm f (y :: r) (by simp)
    by_cases c : f x.nm ≤ f s.nm
    · refine ⟨s, List.mem_cons_of_mem _ hs, fun t ht => ?_⟩
      rcases List.mem_cons.1 ht with rfl | ht
      · exact c
      · exact h t ht
    · refine ⟨x, List.mem_cons_self .., fun t ht => ?_⟩
      rcases List.mem_cons.1 ht with rfl | ht
      · exact Nat.le_refl _
      · have := h t ht; omega
/-- Of some there is one that is used by none. -/
theorem some_free {L : List SetV} (hv : VL L) (ha : Acy L) (h0 : L ≠ []) : ∃ s ∈ L, usedB L s.nm = false := by
  obtain ⟨f, hf⟩ := ha
  obtain ⟨s, hs, hm⟩ := max_nm f L h0
  refine ⟨s, hs, ?_⟩
  rw [← Bool.not_eq_true]
  unfold usedB
  rw [List.any_eq_true]
  rintro ⟨t, ht, e⟩
  rw [decide_eq_true_iff] at e
  have hn : t.fr ≠ noS := fun e2 => by
    have := (okS_nm (hv.ok s hs)).1
    rw [← e, e2] at this
    exact absurd this (by decide)
  have h1 := hf t ht hn
  have h2 := hm t ht
  rw [e] at h1
  omega
theorem dest_mem {L : List SetV} (hv : VL L) {s : SetV} (hs : s ∈ L) : destD L s.nm = if usedB L s.nm then (11, []) else (0, lessL L s.nm) := by
  unfold destD
  rw [find_mem hv hs, if_pos rfl]
/-! ### renamed, and back -/
theorem ren_nms {L : List SetV} {s : SetV} {n : ByteArray} (hn : n ∉ nms L) (x : ByteArray) : x ∈ nms (renL L s.nm n s) ↔ x = n ∨ (x ∈ nms L ∧ x ≠ s.nm) := by
  unfold renL
  constructor
  · intro h
    obtain ⟨y, hy, e⟩ := mem_nms.1 h
    rcases (mem_with (by exact nmem_ren hn)).1 hy with rfl | hy
    · exact .inl e.symm
    · have h2 : x ∈ nms ((lessL L s.nm).map (renS s.nm n)) := mem_nms.2 ⟨y, hy, e⟩
      rw [nms_ren] at h2
      obtain ⟨z, hz, e2⟩ := mem_nms.1 h2
      have := mem_less.1 hz
      exact .inr ⟨mem_nms.2 ⟨z, this.1, e2⟩, by rw [← e2]; exact this.2⟩
  · rintro (rfl | ⟨h, hne⟩)
    · exact mem_nms.2 ⟨_, (mem_with (by exact nmem_ren hn)).2 (.inl rfl), rfl⟩
    · obtain ⟨z, hz, rfl⟩ := mem_nms.1 h
      refine mem_nms.2 ⟨renS s.nm n z, (mem_with (by exact nmem_ren hn)).2 (.inr (List.mem_map.2 ⟨z, mem_less.2 ⟨hz, hne⟩, rfl⟩)), (renS_nm _ _ z).1⟩
/-- Two rising lists that have the same. -/
theorem ris_ext : ∀ {L M : List SetV}, Rising (nms L) → Rising (nms M) → (∀ x, x ∈ L ↔ x ∈ M) → L = M
  | [], [], _, _, _ => rfl
  | [], y :: M, _, _, h => by have := (h y).2 (List.mem_cons_self ..); cases this
  | x :: L, [], _, _, h => by have := (h x).1 (List.mem_cons_self ..); cases this
  | x :: L, y :: M, h1, h2, h => by
    have p1 := List.pairwise_cons.1 h1
    have p2 := List.pairwise_cons.1 h2
    have lt1 : ∀ z ∈ L, lo x.nm z.nm = true := fun z hz => p1.1 z.nm (mem_nms.2 ⟨z, hz, rfl⟩)
    have lt2 : ∀ z ∈ M, lo y.nm z.nm = true := fun z hz => p2.1 z.nm (mem_nms.2 ⟨z, hz, rfl⟩)
    have e : x = y := by
      rcases List.mem_cons.1 ((h x).1 (List.mem_cons_self ..)) with e | e
      · exact e
      · rcases List.mem_cons.1 ((h y).2 (List.mem_cons_self ..)) with e2 | e2
        · exact e2.symm
        · have := lo_trans (lt2 x e) (lt1 y e2)
          rw [lo_irr] at this
          cases this
    subst e
    congr 1
    refine ris_ext p1.2 p2.2 fun z => ⟨fun hz => ?_, fun hz => ?_⟩
    · rcases List.mem_cons.1 ((h z).1 (List.mem_cons_of_mem _ hz)) with rfl | hz'
      · have := lt1 z hz; rw [lo_irr] at this; cases this
      · exact hz'
    · rcases List.mem_cons.1 ((h z).2 (List.mem_cons_of_mem _ hz)) with rfl | hz'
      · have := lt2 z hz; rw [lo_irr] at this; cases this
      · exact hz'
theorem ren_back {L : List SetV} (hv : VL L) {s : SetV} (hs : s ∈ L) {n : ByteArray} (hz : 1 ≤ n.size ∧ n.size ≤ 32) (hn : n ∉ nms L) : renD (renL L s.nm n s) n s.nm = (0, L) := by
  have hX := vl_ren hv hs hz hn
  have hin : (⟨n, s.fr, s.sn, s.rt⟩ : SetV) ∈ renL L s.nm n s := by unfold renL; exact (mem_with (by exact nmem_ren hn)).2 (.inl rfl)
  have hnn : n ≠ s.nm := fun e => hn (mem_nms.2 ⟨s, hs, e.symm⟩)
  have hfs : s.nm ∉ nms (renL L s.nm n s) := by
    rw [ren_nms hn]
    rintro (e | ⟨_, e⟩)
    · exact hnn e.symm
    · exact e rfl
  have hfr : freshE (renL L s.nm n s) s.nm = 0 := fresh_iff.2 ⟨okS_nm (hv.ok s hs), hfs⟩
  unfold renD
  rw [show findD (renL L s.nm n s) n = _ from find_mem hX hin, if_pos rfl, if_pos hfr]
  congr 1
  have hback : VL (renL (renL L s.nm n s) n s.nm ⟨n, s.fr, s.sn, s.rt⟩) := vl_ren (s := ⟨n, s.fr, s.sn, s.rt⟩) hX hin (okS_nm (hv.ok s hs)) hfs
  refine ris_ext hback.ris hv.ris fun x => ?_
  have hnf : ∀ y ∈ L, y.fr ≠ n := fun y hy e => by
    have : y.fr ≠ noS := fun e2 => by rw [e] at e2; rw [e2] at hz; exact absurd hz.1 (by decide)
    exact hn (e ▸ hv.frin hy this)
  have round : ∀ y ∈ L, renS n s.nm (renS s.nm n y) = y := fun y hy => by
    by_cases c : y.fr = s.nm
    · have e : renS s.nm n y = ⟨y.nm, n, y.sn, y.rt⟩ := by unfold renS; rw [if_pos c]
      rw [e]
      unfold renS
      rw [if_pos rfl]
      exact SetV.same rfl c.symm rfl rfl
    · have e : renS s.nm n y = y := by unfold renS; rw [if_neg c]
      rw [e]
      unfold renS
      rw [if_neg (hnf y hy)]
  unfold renL at hfs ⊢
  rw [mem_with (by exact nmem_ren hfs), List.mem_map]
  constructor
  · rintro (rfl | ⟨y, hy, rfl⟩)
    · exact hs
    · obtain ⟨h1, h2⟩ := mem_less.1 hy
      rcases (mem_with (by exact nmem_ren hn)).1 h1 with rfl | h1
      · exact absurd rfl h2
      · obtain ⟨z, hz, rfl⟩ := List.mem_map.1 h1
        have hz' := (mem_less.1 hz).1
        rw [round z hz']
        exact hz'
  · intro hx
    by_cases c : x.nm = s.nm
    · exact .inl (nm_inj hv.ris hx hs c)
    · refine .inr ⟨renS s.nm n x, mem_less.2 ⟨(mem_with (by exact nmem_ren hn)).2 (.inr (List.mem_map.2 ⟨x, mem_less.2 ⟨hx, c⟩, rfl⟩)), ?_⟩, round x hx⟩
      rw [(renS_nm _ _ x).1]
      exact fun e => hn (mem_nms.2 ⟨x, hx, e⟩)
/-! ### a root set -/
theorem nms_set {L : List SetV} {k : Nat} {s : SetV} (h : L[k]? = some s) (r : PtrV) : nms (L.set k ⟨s.nm, s.fr, s.sn, r⟩) = nms L := by
  obtain ⟨hk, e⟩ := List.getElem?_eq_some_iff.1 h
  unfold nms
  rw [List.map_set]
  refine List.ext_getElem (by simp) fun i h1 h2 => ?_
  rw [List.getElem_set]
  split
  · rename_i e2
    subst e2
    rw [List.getElem_map, e]
  · rfl
theorem mem_set {L : List SetV} {k : Nat} {s : SetV} (h : L[k]? = some s) (r : PtrV) {x : SetV} (hx : x ∈ L.set k ⟨s.nm, s.fr, s.sn, r⟩) : ∃ y ∈ L, x.nm = y.nm ∧ x.fr = y.fr ∧ x.sn = y.sn ∧ (x.rt = r ∨ x.rt = y.rt) := by
  rcases List.mem_or_eq_of_mem_set hx with hx | rfl
  · exact ⟨x, hx, rfl, rfl, rfl, .inr rfl⟩
  · exact ⟨s, List.mem_of_getElem? h, rfl, rfl, rfl, .inl rfl⟩
theorem vl_set {L : List SetV} (hv : VL L) {k : Nat} {s : SetV} (h : L[k]? = some s) {r : PtrV} (hr : mayB r 4096 = true) : VL (L.set k ⟨s.nm, s.fr, s.sn, r⟩) := by
  refine ⟨fun x hx => ?_, by rw [nms_set h]; exact hv.ris, fun x hx => ?_⟩
  · obtain ⟨y, hy, e1, e2, e3, e4⟩ := mem_set h r hx
    have hp := ok_parts (hv.ok y hy)
    have hq := okS_nm (hv.ok y hy)
    obtain ⟨a, b, c, d⟩ := x
    simp only at e1 e2 e3 e4
    subst e1 e2 e3
    refine ok_new hq hp.1 hp.2.1 ?_
    rcases e4 with rfl | rfl
    · exact hr
    · exact hp.2.2
  · obtain ⟨y, hy, _, e2, e3, _⟩ := mem_set h r hx
    rcases hv.org y hy with e | ⟨t, ht, e4, e5⟩
    · exact .inl (e2.trans e)
    · have hm : t.nm ∈ nms (L.set k ⟨s.nm, s.fr, s.sn, r⟩) := by rw [nms_set h]; exact mem_nms.2 ⟨t, ht, rfl⟩
      obtain ⟨u, hu, eu⟩ := mem_nms.1 hm
      obtain ⟨z, hz, f1, _, f3, _⟩ := mem_set h r hu
      have := nm_inj hv.ris hz ht (by rw [← f1, eu])
      subst this
      exact .inr ⟨u, hu, by rw [eu, e4, e2], by rw [f3, e5, e3]⟩
end Go.Proofs.Ytkafabcklohlmaa
