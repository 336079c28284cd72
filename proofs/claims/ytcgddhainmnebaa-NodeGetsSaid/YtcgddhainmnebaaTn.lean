/-
  A node that grows in memory as it is read; what any bytes tell.
-/
import Derived.Test.YtcgddhainmnebaaNl
import Derived.Test.YtcgddhainmnebaaRs
namespace Go.Proofs.Ytcgddhainmnebaa
set_option maxRecDepth 4000
set_option linter.unusedVariables false
open Go.ChangeShapes Go.WideShapes Go.ChangeAt Go.RowKit

/-! ### what bytes tell -/
def keyStep (lf : Bool) (s : List ByteArray × List ByteArray × List Int) : List ByteArray × List ByteArray × List Int :=
  if lf then (s.1 ++ [(strA s.2.2).1], s.2.1 ++ [(strA (strA s.2.2).2.2).1], (strA (strA s.2.2).2.2).2.2) else (s.1 ++ [(strA s.2.2).1], s.2.1, (strA s.2.2).2.2)
def rdKeys (lf : Bool) : Nat → List Int → List ByteArray × List ByteArray × List Int
  | 0, l => ([], [], l)
  | n + 1, l => keyStep lf (rdKeys lf n l)
def kidStep (s : List PtrV × List Int) : List PtrV × List Int := (s.1 ++ [(getA s.2).1], (getA s.2).2.2)
def rdKids : Nat → List Int → List PtrV × List Int
  | 0, l => ([], l)
  | n + 1, l => kidStep (rdKids n l)
def kindA (l : List Int) : Int := (numA 1 l).1
def restA (l : List Int) : List Int := (numA 1 l).2.2
def cntA (l : List Int) : Nat := (numA 1 (restA l)).1.toNat
def leafA (l : List Int) : Bool := kindA l == 1
/-- What any bytes may tell. -/
def toldN (l : List Int) : NodeV :=
  ⟨leafA l, (rdKeys (leafA l) (cntA l) (restA (restA l))).1, (rdKeys (leafA l) (cntA l) (restA (restA l))).2.1,
    if leafA l then [] else (rdKids (cntA l + 1) (rdKeys (leafA l) (cntA l) (restA (restA l))).2.2).1⟩
theorem rdKeys_len (lf : Bool) : ∀ n l, (rdKeys lf n l).1.length = n ∧ (rdKeys lf n l).2.1.length = if lf then n else 0
  | 0, l => by cases lf <;> exact ⟨rfl, rfl⟩
  | n + 1, l => by
    obtain ⟨h1, h2⟩ := rdKeys_len lf n l
    unfold rdKeys keyStep
    cases lf with
    | true => simp only [if_true] at h2 ⊢; simp [h1, h2]
    | false => simp only [Bool.false_eq_true, if_false] at h2 ⊢; simp [h1, h2]
theorem rdKids_len : ∀ n l, (rdKids n l).1.length = n
  | 0, l => rfl
  | n + 1, l => by unfold rdKids kidStep; simp [rdKids_len n l]
theorem num1_bound (l : List Int) (h : Byt l) : 0 ≤ (numA 1 l).1 ∧ (numA 1 l).1 ≤ 255 := by
  rw [numA_one]
  split
  · simp
  · rename_i hne
    have e : l.getD 0 0 = l[0]'(List.length_pos_iff.2 hne) := by simp [List.getD, List.length_pos_iff.2 hne]
    dsimp only
    rw [e]
    exact h _ (List.getElem_mem _)
theorem restA_byt {l : List Int} (h : Byt l) : Byt (restA l) := by
  unfold restA
  rw [numA_one]
  split
  · exact h
  · exact byt_drop8 l h 1
theorem cntA_le {l : List Int} (h : Byt l) : cntA l ≤ 255 := by
  have := num1_bound (restA l) (restA_byt h)
  unfold cntA
  omega
theorem cntA_cast {l : List Int} (h : Byt l) : (numA 1 (restA l)).1 = (cntA l : Int) := by
  have := num1_bound (restA l) (restA_byt h)
  unfold cntA
  omega
theorem strA_small (l : List Int) (h : Byt l) : (strA l).1.size ≤ 255 := by
  unfold strA
  split
  · exact Nat.zero_le _
  · rename_i hc
    have hne : l ≠ [] := fun e => hc (.inl e)
    have e : l.getD 0 0 = l[0]'(List.length_pos_iff.2 hne) := by simp [List.getD, List.length_pos_iff.2 hne]
    have hb := h _ (List.getElem_mem (List.length_pos_iff.2 hne))
    rw [← e] at hb
    have hs : (strOfNums ((l.drop 1).take (l.getD 0 0).toNat)).size = ((l.drop 1).take (l.getD 0 0).toNat).length := by
      have := congrArg List.length (strOfNums_data ((l.drop 1).take (l.getD 0 0).toNat))
      simpa using this
    show (strOfNums ((l.drop 1).take (l.getD 0 0).toNat)).size ≤ 255
    rw [hs, List.length_take]
    omega
theorem strA_byt (l : List Int) (h : Byt l) : Byt (strA l).2.2 := by
  unfold strA
  split
  · exact h
  · exact byt_drop8 l h _
theorem getA_byt (l : List Int) (h : Byt l) : Byt (getA l).2.2 := by
  unfold getA
  split
  · exact h
  · exact byt_drop8 l h _
theorem rdKeys_byt (lf : Bool) : ∀ n l, Byt l → Byt (rdKeys lf n l).2.2 ∧ (∀ s ∈ (rdKeys lf n l).1, s.size ≤ 255) ∧ (∀ s ∈ (rdKeys lf n l).2.1, s.size ≤ 255)
  | 0, l, h => ⟨h, nofun, nofun⟩
  | n + 1, l, h => by
    obtain ⟨h1, h2, h3⟩ := rdKeys_byt lf n l h
    have b1 := strA_byt _ h1
    unfold rdKeys keyStep
    cases lf with
    | true =>
      simp only [if_true]
      refine ⟨strA_byt _ b1, fun s hs => ?_, fun s hs => ?_⟩
      · rcases List.mem_append.1 hs with hs | hs
        · exact h2 s hs
        · rw [List.mem_singleton.1 hs]; exact strA_small _ h1
      · rcases List.mem_append.1 hs with hs | hs
        · exact h3 s hs
        · rw [List.mem_singleton.1 hs]; exact strA_small _ b1
    | false =>
      simp only [Bool.false_eq_true, if_false]
      refine ⟨b1, fun s hs => ?_, h3⟩
      rcases List.mem_append.1 hs with hs | hs
      · exact h2 s hs
      · rw [List.mem_singleton.1 hs]; exact strA_small _ h1
theorem told_nb {l : List Int} (h : Byt l) : NB (toldN l) := by
  have hb := rdKeys_byt (leafA l) (cntA l) _ (restA_byt (restA_byt h))
  have hl := rdKeys_len (leafA l) (cntA l) (restA (restA l))
  have hc := cntA_le h
  refine ⟨?_, fun s hs => Nat.le_trans (hb.2.1 s hs) (by decide), ?_, fun s hs => Nat.le_trans (hb.2.2 s hs) (by decide), ?_⟩
  · show (rdKeys _ _ _).1.length ≤ _
    rw [hl.1]; omega
  · show (rdKeys _ _ _).2.1.length ≤ _
    rw [hl.2]; split <;> omega
  · show (if leafA l then [] else (rdKids (cntA l + 1) _).1).length ≤ _
    split
    · exact Nat.zero_le _
    · rw [rdKids_len]; omega
theorem told_few {l : List Int} (h : Byt l) : (toldN l).ks.length ≤ 255 ∧ (toldN l).vs.length ≤ 255 ∧ (toldN l).ps.length ≤ 256 := by
  have hl := rdKeys_len (leafA l) (cntA l) (restA (restA l))
  have hc := cntA_le h
  refine ⟨?_, ?_, ?_⟩
  · show (rdKeys _ _ _).1.length ≤ _
    rw [hl.1]; omega
  · show (rdKeys _ _ _).2.1.length ≤ _
    rw [hl.2]; split <;> omega
  · show (if leafA l then [] else (rdKids (cntA l + 1) _).1).length ≤ _
    split
    · exact Nat.zero_le _
    · rw [rdKids_len]; omega

/-! ### in memory -/
structure TN (B : Nat) (w : World) (G : Nat) (lf : Bool) (k v p : Value) (ks vs : List ByteArray) (ps : List PtrV) : Prop where
  cell : w.heap[G]? = some (.cells #[.bool lf, k, v, p] 25 (0, 0))
  ok : w.ownsRow B 9 1 k ks.length (ks.map Value.string)
  ov : w.ownsRow B 9 1 v vs.length (vs.map Value.string)
  op : w.ownsRow B 57 34 p ps.length (rowsP ps)
  ap : ∀ g, k.ownBlock = some g → v.ownBlock ≠ some g
theorem own_type8 {w : World} {B n m e e' k k' : Nat} {v v' : Value} {xs xs' : List Value} (h : w.ownsRow B e k v n xs) (h' : w.ownsRow B e' k' v' m xs') (hne : e ≠ e') : ∀ g, v.ownBlock = some g → v'.ownBlock ≠ some g := by
  intro g hg hg'
  obtain ⟨cur, hc⟩ := own_type h hg
  obtain ⟨cur', hc'⟩ := own_type h' hg'
  rw [hc] at hc'
  simp only [Option.some.injEq, Obj.cells.injEq] at hc'
  exact hne hc'.2.1
theorem TN.touch {B : Nat} {w w' : World} {G : Nat} {lf : Bool} {k v p : Value} {ks vs : List ByteArray} {ps : List PtrV} {l : List Nat} (h : TN B w G lf k v p ks vs ps) (t : Touch l w w') (hG : B ≤ G) (hl : ∀ g ∈ l, g < B) : TN B w' G lf k v p ks vs ps := by
  have hn : ∀ {v : Value} {e n k : Nat} {xs : List Value}, w.ownsRow B e k v n xs → ∀ g, v.ownBlock = some g → g ∉ l := fun ho g hg hm => by
    have := (ho.lt g hg).1
    have := hl g hm
    omega
  exact ⟨(t.block G (Array.getElem?_eq_some_iff.1 h.cell).1 (fun hm => by have := hl G hm; omega)).trans h.cell, own_touch h.ok t (hn h.ok), own_touch h.ov t (hn h.ov), own_touch h.op t (hn h.op), h.ap⟩
theorem TN.below {B : Nat} {w w' : World} {G : Nat} {lf : Bool} {k v p : Value} {ks vs : List ByteArray} {ps : List PtrV} (h : TN B w G lf k v p ks vs ps) (b : Below w.heap.size w w') : TN B w' G lf k v p ks vs ps :=
  ⟨(b.block G (Array.getElem?_eq_some_iff.1 h.cell).1).trans h.cell, own_belowP h.ok b, own_belowP h.ov b, own_belowP h.op b, h.ap⟩
theorem TN.lt {B : Nat} {w : World} {G : Nat} {lf : Bool} {k v p : Value} {ks vs : List ByteArray} {ps : List PtrV} (h : TN B w G lf k v p ks vs ps) : G < w.heap.size := (Array.getElem?_eq_some_iff.1 h.cell).1
theorem TN.nr {B : Nat} {w : World} {G : Nat} {lf : Bool} {k v p : Value} {ks vs : List ByteArray} {ps : List PtrV} (h : TN B w G lf k v p ks vs ps) : NR w k v p ⟨lf, ks, vs, ps⟩ := ⟨ss_own h.ok, ss_own h.ov, ps_own h.op⟩
theorem own_shape8 {w : World} {B e k n : Nat} {v : Value} {xs : List Value} (h : w.ownsRow B e k v n xs) : ∃ a c, v = .slice a n c := by
  rcases h.2 with ⟨rfl, h0⟩ | ⟨g, cap, _, rfl, _⟩
  · exact ⟨none, 0, by rw [h0]⟩
  · exact ⟨_, _, rfl⟩
theorem info_str : (Try.prog.info? 9).map (fun i => (i.zero, i.size, i.bytes)) = some (some (.string ⟨#[]⟩), 1, 16) := by kernel_rfl
/-- One string behind a row of one's own. -/
theorem append_str (w : World) (B n : Nat) (v : Value) (xs : List ByteArray) (s : ByteArray) (hown : w.ownsRow B 9 1 v n (xs.map Value.string)) (hn : n ≤ 1000000) (hB : B ≤ w.heap.size) :
    ∃ a c w', (Builtin.append_ #[22, 22] 22 #[v, .slice (some ⟨w.heap.size, 0, none⟩) 1 1]).run Try.prog (w.alloc (.cells #[.string s] 9)) = .ok (.slice a (n + 1) c) w' ∧
      w'.ownsRow B 9 1 (.slice a (n + 1) c) (n + 1) ((xs ++ [s]).map Value.string) ∧ (w.alloc (.cells #[.string s] 9)).grownBy w' v.ownBlock ∧
      ((Value.slice a (n + 1) c).ownBlock = v.ownBlock ∨ (Value.slice a (n + 1) c).ownBlock = some (w.heap.size + 1)) := by
  obtain ⟨i0, hi, hz0, hz1, hz2⟩ := info_parts info_str
  have hb := (Below.refl w.heap.size w).alloc (Nat.le_refl _) (.cells #[.string s] 9)
  have hs : (w.alloc (.cells #[.string s] 9)).heap.size = w.heap.size + 1 := by simp
  obtain ⟨v', w', hr, ho, hg, _, hnb⟩ := run_append_own_at (P := Try.prog) (w.alloc (.cells #[.string s] 9)) B 22 22 9 i0 _ 1 16 Try.underlying22 hi hz0 hz1 hz2 rfl (by decide) v n (xs.map Value.string) (own_belowP hown hb) ⟨w.heap.size, 0, none⟩ 1 1 [.string s] rfl (fun j u hj => by
      have hj0 : j = 0 := by have := (List.getElem?_eq_some_iff.1 hj).1; simp at this; exact this
      subst hj0
      simp at hj
      subst hj
      rw [Addr.add_mid, Nat.add_zero, cell_of_row _ _ _ _ _ _ (heap_alloc_new w _)]
      rfl) (fun u hu => by rw [List.mem_singleton.1 hu]; rfl) (by unfold maxLen; omega) (by omega) (by rw [hs]; omega)
  obtain ⟨a, c, rfl⟩ := own_shape8 ho
  refine ⟨a, c, w', hr, by rw [List.map_append]; exact ho, hg, ?_⟩
  rw [hs] at hnb
  exact hnb
theorem grown_below {w w' : World} {B : Nat} {row : Option Nat} (h : w.grownBy w' row) (hB : B ≤ w.heap.size) (hr : ∀ g, row = some g → B ≤ g) : Below B w w' := (Touch.grown h).below hB (fun k hk => by
  cases row with
  | none => simp at hk
  | some g => simp at hk; subst hk; exact hr _ rfl)
/-- The node one key longer. -/
theorem tn_key {B : Nat} {w : World} {G : Nat} {lf : Bool} {k v p : Value} {ks vs : List ByteArray} {ps : List PtrV} (h : TN B w G lf k v p ks vs ps) (s : ByteArray) (hB : B ≤ w.heap.size) (hG : B ≤ G) (hn : ks.length ≤ 100000) :
    ∃ a c w', (Builtin.append_ #[22, 22] 22 #[k, .slice (some ⟨w.heap.size, 0, none⟩) 1 1]).run Try.prog (w.alloc (.cells #[.string s] 9)) = .ok (.slice a (ks.length + 1) c) w' ∧
      w'.cell? ⟨G, 1, none⟩ = some k ∧ w'.frozen? ⟨G, 1, none⟩ = false ∧ TN B (w'.setCell ⟨G, 1, none⟩ (.slice a (ks.length + 1) c)) G lf (.slice a (ks.length + 1) c) v p (ks ++ [s]) vs ps ∧
      Below B w (w'.setCell ⟨G, 1, none⟩ (.slice a (ks.length + 1) c)) ∧ ∀ F, F < w.heap.size → k.ownBlock ≠ some F → F ≠ G → (w'.setCell ⟨G, 1, none⟩ (.slice a (ks.length + 1) c)).heap[F]? = w.heap[F]? := by
  obtain ⟨a, c, w', hr, ho, hg, hnb⟩ := append_str w B ks.length k ks s h.ok (by omega) hB
  have hb := (Below.refl w.heap.size w).alloc (Nat.le_refl _) (.cells #[.string s] 9)
  have h1 := h.below hb
  have hs : (w.alloc (.cells #[.string s] 9)).heap.size = w.heap.size + 1 := by simp
  have hkG : k.ownBlock ≠ some G := own_ne h.ok h.cell (by decide)
  have hc1 : w'.heap[G]? = some (.cells #[.bool lf, k, v, p] 25 (0, 0)) := (hg.block G h1.lt (fun e => hkG e.symm)).trans h1.cell
  have hnG : (Value.slice a (ks.length + 1) c).ownBlock ≠ some G := own_ne ho hc1 (by decide)
  have hO := (Only.refl G w').setCell 1 (.slice a (ks.length + 1) c)
  have tg := Touch.grown hg
  have to := Touch.of_only (l := [G]) hO (by simp)
  have hvk : ∀ g, v.ownBlock = some g → g ∉ k.ownBlock.toList := fun g hv hm => by
    rw [Option.mem_toList] at hm
    exact h.ap g hm hv
  have hpk : ∀ g, p.ownBlock = some g → g ∉ k.ownBlock.toList := fun g hp hm => by
    rw [Option.mem_toList] at hm
    exact own_type8 h.op h.ok (by decide) g hp hm
  have hG1 : ∀ {e k' n : Nat} {u : Value} {xs : List Value}, w'.ownsRow B e k' u n xs → e ≠ 25 → ∀ g, u.ownBlock = some g → g ∉ [G] := fun hu he g hg2 hm => by
    rw [List.mem_singleton] at hm
    subst hm
    exact own_ne hu hc1 (fun e => he e.symm) hg2
  have ov' := own_touch h1.ov tg hvk
  have op' := own_touch h1.op tg hpk
  refine ⟨a, c, w', hr, cell_of_row _ _ _ _ _ _ hc1, frozen_of_row _ _ _ _ _ hc1, ⟨heap_setCell_same _ _ _ _ _ _ hc1, ?_, own_touch ov' to (hG1 ov' (by decide)), own_touch op' to (hG1 op' (by decide)), fun g hk hv => ?_⟩, ?_, fun F hF hkF hFG => ?_⟩
  · rw [List.length_append]
    exact own_touch ho to (hG1 ho (by decide))
  · rcases hnb with e | e
    · rw [e] at hk; exact h.ap g hk hv
    · rw [e] at hk
      cases hk
      have := (h.ov.lt _ hv).2
      omega
  · have hgb := grown_below hg (B := B) (by rw [hs]; omega) (fun g e => (h.ok.lt g e).1)
    exact ((hb.mono hB).trans hgb).trans (hO.bel B hG)
  · exact (hO.rest F hFG).trans ((hg.block F (by rw [hs]; omega) (fun e => hkF e.symm)).trans (hb.block F hF))
/-- .. one value longer. -/
theorem tn_val {B : Nat} {w : World} {G : Nat} {lf : Bool} {k v p : Value} {ks vs : List ByteArray} {ps : List PtrV} (h : TN B w G lf k v p ks vs ps) (s : ByteArray) (hB : B ≤ w.heap.size) (hG : B ≤ G) (hn : vs.length ≤ 100000) :
    ∃ a c w', (Builtin.append_ #[22, 22] 22 #[v, .slice (some ⟨w.heap.size, 0, none⟩) 1 1]).run Try.prog (w.alloc (.cells #[.string s] 9)) = .ok (.slice a (vs.length + 1) c) w' ∧
      w'.cell? ⟨G, 2, none⟩ = some v ∧ w'.frozen? ⟨G, 2, none⟩ = false ∧ TN B (w'.setCell ⟨G, 2, none⟩ (.slice a (vs.length + 1) c)) G lf k (.slice a (vs.length + 1) c) p ks (vs ++ [s]) ps ∧
      Below B w (w'.setCell ⟨G, 2, none⟩ (.slice a (vs.length + 1) c)) ∧ ∀ F, F < w.heap.size → v.ownBlock ≠ some F → F ≠ G → (w'.setCell ⟨G, 2, none⟩ (.slice a (vs.length + 1) c)).heap[F]? = w.heap[F]? := by
  obtain ⟨a, c, w', hr, ho, hg, hnb⟩ := append_str w B vs.length v vs s h.ov (by omega) hB
  have hb := (Below.refl w.heap.size w).alloc (Nat.le_refl _) (.cells #[.string s] 9)
  have h1 := h.below hb
  have hs : (w.alloc (.cells #[.string s] 9)).heap.size = w.heap.size + 1 := by simp
  have hkG : v.ownBlock ≠ some G := own_ne h.ov h.cell (by decide)
  have hc1 : w'.heap[G]? = some (.cells #[.bool lf, k, v, p] 25 (0, 0)) := (hg.block G h1.lt (fun e => hkG e.symm)).trans h1.cell
  have hO := (Only.refl G w').setCell 2 (.slice a (vs.length + 1) c)
  have tg := Touch.grown hg
  have to := Touch.of_only (l := [G]) hO (by simp)
  have hvk : ∀ g, k.ownBlock = some g → g ∉ v.ownBlock.toList := fun g hv hm => by
    rw [Option.mem_toList] at hm
    exact h.ap g hv hm
  have hpk : ∀ g, p.ownBlock = some g → g ∉ v.ownBlock.toList := fun g hp hm => by
    rw [Option.mem_toList] at hm
    exact own_type8 h.op h.ov (by decide) g hp hm
  have hG1 : ∀ {e k' n : Nat} {u : Value} {xs : List Value}, w'.ownsRow B e k' u n xs → e ≠ 25 → ∀ g, u.ownBlock = some g → g ∉ [G] := fun hu he g hg2 hm => by
    rw [List.mem_singleton] at hm
    subst hm
    exact own_ne hu hc1 (fun e => he e.symm) hg2
  have ok' := own_touch h1.ok tg hvk
  have op' := own_touch h1.op tg hpk
  refine ⟨a, c, w', hr, cell_of_row _ _ _ _ _ _ hc1, frozen_of_row _ _ _ _ _ hc1, ⟨heap_setCell_same _ _ _ _ _ _ hc1, own_touch ok' to (hG1 ok' (by decide)), ?_, own_touch op' to (hG1 op' (by decide)), fun g hk hv => ?_⟩, ?_, fun F hF hkF hFG => ?_⟩
  · rw [List.length_append]
    exact own_touch ho to (hG1 ho (by decide))
  · rcases hnb with e | e
    · rw [e] at hv; exact h.ap g hk hv
    · rw [e] at hv
      cases hv
      have := (h.ok.lt _ hk).2
      omega
  · have hgb := grown_below hg (B := B) (by rw [hs]; omega) (fun g e => (h.ov.lt g e).1)
    exact ((hb.mono hB).trans hgb).trans (hO.bel B hG)
  · exact (hO.rest F hFG).trans ((hg.block F (by rw [hs]; omega) (fun e => hkF e.symm)).trans (hb.block F hF))
/-- .. one kid longer. -/
theorem tn_kid {B : Nat} {w : World} {G : Nat} {lf : Bool} {k v p : Value} {ks vs : List ByteArray} {ps : List PtrV} (h : TN B w G lf k v p ks vs ps) (q : PtrV) (hB : B ≤ w.heap.size) (hG : B ≤ G) (hn : ps.length ≤ 100000) :
    ∃ a c w', (Builtin.append_ #[23, 23] 23 #[p, .slice (some ⟨w.heap.size, 0, none⟩) 1 1]).run Try.prog (w.alloc (.cells (ptrRow q).toArray 57)) = .ok (.slice a (ps.length + 1) c) w' ∧
      w'.cell? ⟨G, 3, none⟩ = some p ∧ w'.frozen? ⟨G, 3, none⟩ = false ∧ TN B (w'.setCell ⟨G, 3, none⟩ (.slice a (ps.length + 1) c)) G lf k v (.slice a (ps.length + 1) c) ks vs (ps ++ [q]) ∧
      Below B w (w'.setCell ⟨G, 3, none⟩ (.slice a (ps.length + 1) c)) ∧ ∀ F, F < w.heap.size → p.ownBlock ≠ some F → F ≠ G → (w'.setCell ⟨G, 3, none⟩ (.slice a (ps.length + 1) c)).heap[F]? = w.heap[F]? := by
  have hb := (Below.refl w.heap.size w).alloc (Nat.le_refl _) (.cells (ptrRow q).toArray 57)
  have h1 := h.below hb
  have hs : (w.alloc (.cells (ptrRow q).toArray 57)).heap.size = w.heap.size + 1 := by simp
  obtain ⟨a, c, w', hr, ho, hg, hnb⟩ := append_ps (w.alloc (.cells (ptrRow q).toArray 57)) B ps.length p (.slice (some ⟨w.heap.size, 0, none⟩) 1 1) ps [q] h1.op (ps_row (l := [q]) 1 (by rw [show rowsP [q] = ptrRow q by simp [rowsP]]; exact heap_alloc_new w _)) (by omega) (by simp) (by rw [hs]; omega)
  have hkG : p.ownBlock ≠ some G := own_ne h.op h.cell (by decide)
  have hc1 : w'.heap[G]? = some (.cells #[.bool lf, k, v, p] 25 (0, 0)) := (hg.block G h1.lt (fun e => hkG e.symm)).trans h1.cell
  have hO := (Only.refl G w').setCell 3 (.slice a (ps.length + 1) c)
  have tg := Touch.grown hg
  have to := Touch.of_only (l := [G]) hO (by simp)
  have hvk : ∀ {u : Value} {n : Nat} {xs : List Value}, w.ownsRow B 9 1 u n xs → ∀ g, u.ownBlock = some g → g ∉ p.ownBlock.toList := fun hu g hv hm => by
    rw [Option.mem_toList] at hm
    exact own_type8 hu h.op (by decide) g hv hm
  have hG1 : ∀ {e k' n : Nat} {u : Value} {xs : List Value}, w'.ownsRow B e k' u n xs → e ≠ 25 → ∀ g, u.ownBlock = some g → g ∉ [G] := fun hu he g hg2 hm => by
    rw [List.mem_singleton] at hm
    subst hm
    exact own_ne hu hc1 (fun e => he e.symm) hg2
  have ok' := own_touch h1.ok tg (hvk h.ok)
  have ov' := own_touch h1.ov tg (hvk h.ov)
  refine ⟨a, c, w', hr, cell_of_row _ _ _ _ _ _ hc1, frozen_of_row _ _ _ _ _ hc1, ⟨heap_setCell_same _ _ _ _ _ _ hc1, own_touch ok' to (hG1 ok' (by decide)), own_touch ov' to (hG1 ov' (by decide)), ?_, h.ap⟩, ?_, fun F hF hkF hFG => ?_⟩
  · rw [List.length_append]
    exact own_touch ho to (hG1 ho (by decide))
  · have hgb := grown_below hg (B := B) (by rw [hs]; omega) (fun g e => (h.op.lt g e).1)
    exact ((hb.mono hB).trans hgb).trans (hO.bel B hG)
  · exact (hO.rest F hFG).trans ((hg.block F (by rw [hs]; omega) (fun e => hkF e.symm)).trans (hb.block F hF))
end Go.Proofs.Ytcgddhainmnebaa
