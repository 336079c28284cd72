/-
  No: Nodes of layer 9 as plain values: how one lies in memory, comes in; what may be, how many bytes it has.
  Fo: Whether a node may be: the library's ContainsFunc with the three closures of formed; Size, Check.
  Fs: The program's formed, Size and Check of layer 9.
  Np: A node as bytes; the program's kindOf and Put.
  Nf: Where a key stands: the library's BinarySearch over strings; Find.
  Nl: What layer 9's laws share: the chapter's examples; whether a node is more than is looked at.
-/
import Derived.Test.YtkafabcklohlmaaPt1
namespace Go.Proofs.Ytkafabcklohlmaa
set_option maxRecDepth 4000
set_option linter.unusedVariables false
open Go.ChangeShapes Go.WideShapes Go.ChangeAt Go.RowKit

/-- A node. -/
structure NodeV where
  lf : Bool
  ks : List ByteArray
  vs : List ByteArray
  ps : List PtrV
def zeroNode : NodeV := ⟨false, [], [], []⟩
/-- Where its slices lie. -/
structure NR (w : World) (k v p : Value) (n : NodeV) : Prop where
  ks : SS w k n.ks
  vs : SS w v n.vs
  ps : PS w p n.ps
theorem NR.below {w w' : World} {k v p : Value} {n : NodeV} (h : NR w k v p n) (b : Below w.heap.size w w') : NR w' k v p n := ⟨h.ks.below b, h.vs.below b, h.ps.below b⟩
/-- No slice, no string is longer than any machine holds. -/
structure NB (n : NodeV) : Prop where
  kl : n.ks.length ≤ 140737488351232
  kz : ∀ s ∈ n.ks, s.size ≤ 140737488351232
  vl : n.vs.length ≤ 140737488351232
  vz : ∀ s ∈ n.vs, s.size ≤ 140737488351232
  pl : n.ps.length ≤ 140737488351232
theorem nb_zero : NB zeroNode := ⟨by decide, nofun, by decide, nofun, by decide⟩
theorem ps_nil (w : World) : PS w (.slice none 0 0) [] := ⟨none, 0, rfl, fun i q hq => by simp at hq⟩
theorem nr_zero (w : World) : NR w (.slice none 0 0) (.slice none 0 0) (.slice none 0 0) zeroNode := ⟨ss_nil w, ss_nil w, ps_nil w⟩
theorem node_at {w : World} {g t : Nat} {x : Bool} {k v p : Value} {fr : Nat × Nat} (h : w.heap[g]? = some (.cells #[.bool x, k, v, p] t fr)) :
    w.cell? ⟨g, 0, none⟩ = some (.bool x) ∧ w.cell? ⟨g, 1, none⟩ = some k ∧ w.cell? ⟨g, 2, none⟩ = some v ∧ w.cell? ⟨g, 3, none⟩ = some p :=
  ⟨cell_of_row _ _ _ _ _ _ h, cell_of_row _ _ _ _ _ _ h, cell_of_row _ _ _ _ _ _ h, cell_of_row _ _ _ _ _ _ h⟩

/-! ### how one comes in -/
def RNode : World → NodeV → List Value → Prop := fun W n cs => ∃ k v p, cs = [.bool n.lf, k, v, p] ∧ NR W k v p n ∧ NB n
theorem sl_str {W : World} {l : List ByteArray} {a : Option Addr} {n c : Nat} (h : SlR RStr 1 W l a n c) : SS W (.slice a n c) l ∧ l.length ≤ 140737488351232 ∧ ∀ s ∈ l, s.size ≤ 140737488351232 := by
  refine ⟨⟨a, c, by rw [h.len], by rw [h.len]; exact h.cap, fun i s hs => ?_⟩, by have := h.cap; have := h.big; have := h.len; omega, fun s hs => ?_⟩
  · obtain ⟨hi, rfl⟩ := List.getElem?_eq_some_iff.1 hs
    obtain ⟨b, off, cs, h1, ⟨h2, _⟩, h3, h4⟩ := h.here i hi
    subst h2
    exact ⟨b, off, h1, by have := h4 0 _ rfl; simpa using this⟩
  · obtain ⟨i, hi, rfl⟩ := List.getElem_of_mem hs
    obtain ⟨b, off, cs, h1, ⟨_, h2⟩, h3, h4⟩ := h.here i hi
    exact h2
theorem opn_strs : Opn 57 (RSl RStr 1) := opn_slice 1 Try.underlying57 (by kernel_rfl) (by decide) (of_decide_eq_true (by kernel_rfl)) (opn_str Try.underlying9)
def risesFrom : ByteArray → List ByteArray → Bool
  | _, [] => true
  | a, k :: r => lo a k && decide (k.size ≤ 32) && risesFrom k r
def valOk (s : ByteArray) : Bool := decide (s.size ≤ 96)
def kidOk (q : PtrV) : Bool := !(q.ad == 0) && decide (checkE q 4096 = 0)
def countsB (n : NodeV) : Bool := if n.lf then decide (n.vs.length = n.ks.length) && decide (n.ps.length = 0) else decide (0 < n.ks.length) && decide (n.vs.length = 0) && decide (n.ps.length = n.ks.length + 1)
def formB (n : NodeV) : Bool := countsB n && risesFrom ⟨#[]⟩ n.ks && n.vs.all valOk && n.ps.all kidOk
def txs : List ByteArray → Nat
  | [] => 0
  | s :: r => 1 + s.size + txs r
def sizeN (n : NodeV) : Nat := 2 + txs n.ks + txs n.vs + 44 * n.ps.length
def sizeA (n : NodeV) : Int × Int := if formB n then ((sizeN n : Nat), 0) else (0, 4)
def checkN (n : NodeV) : Int := if formB n then (if sizeN n ≤ 512 then 0 else 6) else 4
theorem txs_app (l m : List ByteArray) : txs (l ++ m) = txs l + txs m := by
  induction l with
  | nil => simp [txs]
  | cons s l ih => simp only [List.cons_append, txs, ih]; omega
theorem txs_le (l : List ByteArray) (k : Nat) (h : ∀ s ∈ l, s.size ≤ k) : txs l ≤ l.length * (k + 1) := by
  induction l with
  | nil => simp [txs]
  | cons s l ih =>
    have h1 := h s (by simp)
    have h2 := ih (fun t ht => h t (by simp [ht]))
    simp only [txs, List.length_cons, Nat.add_mul]
    omega
theorem rises_small : ∀ (a : ByteArray) (l : List ByteArray), risesFrom a l = true → ∀ s ∈ l, s.size ≤ 32
  | _, [], _, s, hs => by simp at hs
  | a, k :: r, h, s, hs => by
    unfold risesFrom at h
    simp only [Bool.and_eq_true, decide_eq_true_eq] at h
    rcases List.mem_cons.1 hs with rfl | hs
    · exact h.1.2
    · exact rises_small k r h.2 s hs
theorem form_small {n : NodeV} (h : formB n = true) : (∀ s ∈ n.ks, s.size ≤ 32) ∧ (∀ s ∈ n.vs, s.size ≤ 96) := by
  unfold formB at h
  simp only [Bool.and_eq_true] at h
  exact ⟨rises_small _ _ h.1.1.2, fun s hs => by have := List.all_eq_true.1 h.1.2 s hs; simpa [valOk] using this⟩
end Go.Proofs.Ytkafabcklohlmaa
namespace Go.Proofs.Ytkafabcklohlmaa
set_option maxRecDepth 4000
set_option linter.unusedVariables false
open Go.ChangeShapes Go.WideShapes Go.ChangeAt Go.RowKit

/-- Two strings stand in one of three ways. -/
theorem str_three (a s : ByteArray) : (lo a s = true ∧ Op.bytesLess s.toList a.toList = false ∧ (s.toList == a.toList) = false) ∨ (lo a s = false ∧ Op.bytesLess s.toList a.toList = true ∧ (s.toList == a.toList) = false) ∨ (lo a s = false ∧ Op.bytesLess s.toList a.toList = false ∧ (s.toList == a.toList) = true) := by
  have ne : ∀ {x y : ByteArray}, lo x y = true → x ≠ y := fun h e => by rw [e, lo_irr] at h; cases h
  rcases lo_tri a s with h | h | h
  · exact .inl ⟨h, lo_asymm h, by rw [str_beq, decide_eq_false (ne h).symm]⟩
  · subst h
    exact .inr (.inr ⟨lo_irr _, lo_irr _, by rw [str_beq, decide_eq_true rfl]⟩)
  · exact .inr (.inl ⟨lo_asymm h, h, by rw [str_beq, decide_eq_false (ne h)]⟩)
theorem lo_unf (a b : ByteArray) : lo a b = Op.bytesLess a.toList b.toList := rfl
end Go.Proofs.Ytkafabcklohlmaa
namespace Go.Proofs.Ytkafabcklohlmaa
set_option maxRecDepth 4000
set_option linter.unusedVariables false
open Go.ChangeShapes Go.WideShapes Go.ChangeAt Go.RowKit

theorem SS.shape {w : World} {v : Value} {l : List ByteArray} (h : SS w v l) : ∃ a c, v = .slice a l.length c := by obtain ⟨a, c, e, _⟩ := h; exact ⟨a, c, e⟩
theorem PS.shape {w : World} {v : Value} {l : List PtrV} (h : PS w v l) : ∃ a c, v = .slice a l.length c := by obtain ⟨a, c, e, _⟩ := h; exact ⟨a, c, e⟩
theorem cast_beq (a b : Nat) : ((a : Int) == (b : Int)) = decide (a = b) := by
  by_cases h : a = b
  · rw [h]; simp
  · rw [decide_eq_false h]; simp; omega
theorem sizeN_max {n : NodeV} (hf : formB n = true) (hn : NB n) : ((sizeN n : Nat) : Int) ≤ 36028797018963968 := by
  obtain ⟨hk, hv⟩ := form_small hf
  have h1 := txs_le n.ks 96 (fun s hs => Nat.le_trans (hk s hs) (by decide))
  have h2 := txs_le n.vs 96 hv
  have := hn.kl
  have := hn.vl
  have := hn.pl
  unfold sizeN
  omega
end Go.Proofs.Ytkafabcklohlmaa
namespace Go.Proofs.Ytkafabcklohlmaa
set_option maxRecDepth 4000
set_option linter.unusedVariables false
open Go.ChangeShapes Go.WideShapes Go.ChangeAt Go.RowKit

def pairB (q : ByteArray × ByteArray) : List Int := (strW q.1).1 ++ (strW q.2).1
def keyB9 (s : ByteArray) : List Int := (strW s).1
/-- A node's bytes ahead of the noughts. -/
def nodeB (n : NodeV) : List Int := if n.lf then (1 :: (n.ks.length : Int) :: (n.ks.zip n.vs).flatMap pairB) else (2 :: (n.ks.length : Int) :: (n.ks.flatMap keyB9 ++ n.ps.flatMap ptrB))
def secB9 (n : NodeV) : List Int := nodeB n ++ List.replicate (512 - (nodeB n).length) 0
def sectL (n : NodeV) : List Int := if checkN n = 0 then secB9 n else []
theorem keyB9_length (s : ByteArray) : (keyB9 s).length ≤ 256 := by
  unfold keyB9 strW
  split
  · simp
  · simp only [List.length_cons, btxt_length]; omega
theorem keyB9_byt (s : ByteArray) : Byt (keyB9 s) := by
  unfold keyB9 strW
  split
  · intro z hz; simp at hz
  · intro z hz
    rcases List.mem_cons.1 hz with rfl | hz
    · omega
    · exact btxt_byt s z hz
theorem keyB_small {s : ByteArray} (h : s.size ≤ 255) : keyB9 s = (s.size : Int) :: btxt s := by
  unfold keyB9 strW
  rw [if_neg (by omega)]
theorem keyB_len {s : ByteArray} (h : s.size ≤ 255) : (keyB9 s).length = 1 + s.size := by
  rw [keyB_small h, List.length_cons, btxt_length]; omega
theorem flat_length {α : Type} (f : α → List Int) (k : Nat) : ∀ l : List α, (∀ x ∈ l, (f x).length ≤ k) → (l.flatMap f).length ≤ l.length * k
  | [], _ => by simp
  | x :: l, h => by
    have h1 := h x (by simp)
    have h2 := flat_length f k l (fun y hy => h y (by simp [hy]))
    rw [List.flatMap_cons, List.length_append, List.length_cons, Nat.add_mul]
    omega
theorem flat_byt {α : Type} (f : α → List Int) (l : List α) (h : ∀ x ∈ l, Byt (f x)) : Byt (l.flatMap f) := by
  intro z hz
  obtain ⟨x, hx, hz⟩ := List.mem_flatMap.1 hz
  exact h x hx z hz
theorem flat_step {α : Type} (f : α → List Int) (l : List α) (i : Nat) (x : α) (h : l[i]? = some x) : (l.take (i + 1)).flatMap f = (l.take i).flatMap f ++ f x := by
  rw [List.take_add_one, h, List.flatMap_append]
  simp
theorem pairB_length (q : ByteArray × ByteArray) : (pairB q).length ≤ 512 := by
  have h1 := keyB9_length q.1
  have h2 := keyB9_length q.2
  unfold pairB
  unfold keyB9 at h1 h2
  rw [List.length_append]
  omega
theorem len_keys : ∀ l : List ByteArray, (∀ s ∈ l, s.size ≤ 96) → (l.flatMap keyB9).length = txs l
  | [], _ => rfl
  | s :: l, h => by
    rw [List.flatMap_cons, List.length_append, keyB_len (Nat.le_trans (h s (by simp)) (by decide)), len_keys l (fun t ht => h t (by simp [ht])), txs]
theorem len_pairs : ∀ (k v : List ByteArray), v.length = k.length → (∀ s ∈ k, s.size ≤ 96) → (∀ s ∈ v, s.size ≤ 96) → ((k.zip v).flatMap pairB).length = txs k + txs v
  | [], [], _, _, _ => rfl
  | [], _ :: _, h, _, _ => by simp at h
  | _ :: _, [], h, _, _ => by simp at h
  | a :: k, b :: v, h, hk, hv => by
    have ih := len_pairs k v (by simpa using h) (fun t ht => hk t (by simp [ht])) (fun t ht => hv t (by simp [ht]))
    have h1 := keyB_len (s := a) (Nat.le_trans (hk a (by simp)) (by decide))
    have h2 := keyB_len (s := b) (Nat.le_trans (hv b (by simp)) (by decide))
    unfold keyB9 at h1 h2
    rw [List.zip_cons_cons, List.flatMap_cons, List.length_append, ih]
    unfold pairB
    rw [List.length_append, h1, h2]
    simp only [txs]
    omega
theorem len_kids : ∀ l : List PtrV, (l.flatMap ptrB).length = 44 * l.length
  | [] => rfl
  | q :: l => by rw [List.flatMap_cons, List.length_append, ptrB_length, len_kids l, List.length_cons]; omega
theorem counts_leaf {n : NodeV} (hl : n.lf = true) (h : countsB n = true) : n.vs.length = n.ks.length ∧ n.ps = [] := by
  unfold countsB at h
  rw [if_pos hl] at h
  simp only [Bool.and_eq_true, decide_eq_true_eq] at h
  exact ⟨h.1, List.length_eq_zero_iff.1 h.2⟩
theorem counts_branch {n : NodeV} (hl : n.lf = false) (h : countsB n = true) : 0 < n.ks.length ∧ n.vs = [] ∧ n.ps.length = n.ks.length + 1 := by
  unfold countsB at h
  rw [hl] at h
  simp only [Bool.false_eq_true, if_false, Bool.and_eq_true, decide_eq_true_eq] at h
  exact ⟨h.1.1, List.length_eq_zero_iff.1 h.1.2, h.2⟩
theorem form_counts {n : NodeV} (h : formB n = true) : countsB n = true := by
  unfold formB at h
  simp only [Bool.and_eq_true] at h
  exact h.1.1.1
theorem nodeB_length {n : NodeV} (h : formB n = true) : (nodeB n).length = sizeN n := by
  obtain ⟨hk, hv⟩ := form_small h
  have hk' : ∀ s ∈ n.ks, s.size ≤ 96 := fun s hs => Nat.le_trans (hk s hs) (by decide)
  have hc := form_counts h
  unfold nodeB sizeN
  cases hl : n.lf with
  | true =>
    obtain ⟨h1, h2⟩ := counts_leaf hl hc
    rw [if_pos rfl, List.length_cons, List.length_cons, len_pairs _ _ h1 hk' hv, h2]
    simp; omega
  | false =>
    obtain ⟨_, h2, h3⟩ := counts_branch hl hc
    rw [if_neg (by decide), List.length_cons, List.length_cons, List.length_append, len_keys _ hk', len_kids, h2]
    simp [txs]; omega
theorem check_ok {n : NodeV} (h : checkN n = 0) : formB n = true ∧ sizeN n ≤ 512 := by
  unfold checkN at h
  cases hf : formB n with
  | false => rw [hf] at h; simp at h
  | true =>
    rw [hf] at h
    simp only [if_true] at h
    split at h
    · exact ⟨rfl, by assumption⟩
    · cases h
theorem txs_len : ∀ l : List ByteArray, l.length ≤ txs l
  | [] => Nat.le_refl _
  | s :: l => by have := txs_len l; simp only [txs, List.length_cons]; omega
theorem check_few {n : NodeV} (h : checkN n = 0) : n.ks.length ≤ 510 ∧ n.ps.length ≤ 11 := by
  obtain ⟨_, h2⟩ := check_ok h
  have h3 := txs_len n.ks
  unfold sizeN at h2
  omega
theorem rises_pos : ∀ (a : ByteArray) (l : List ByteArray), risesFrom a l = true → ∀ s ∈ l, lo ⟨#[]⟩ s = true
  | _, [], _, s, hs => by simp at hs
  | a, k :: r, h, s, hs => by
    unfold risesFrom at h
    simp only [Bool.and_eq_true, decide_eq_true_eq] at h
    rcases List.mem_cons.1 hs with rfl | hs
    · rcases lo_tri ⟨#[]⟩ s with e | e | e
      · exact e
      · rw [← e, lo_lt, decide_eq_true_iff] at h
        exact absurd h.1.1 (by simp [Lib.toList_data, List.not_lt_nil])
      · rw [lo_lt, decide_eq_true_iff] at e
        exact absurd e (by simp [Lib.toList_data, List.not_lt_nil])
    · exact rises_pos k r h.2 s hs
theorem lo_pos {s : ByteArray} (h : lo ⟨#[]⟩ s = true) : 1 ≤ s.size := by
  rcases Nat.eq_zero_or_pos s.size with e | e
  · have : s = ⟨#[]⟩ := ByteArray.ext (Array.eq_empty_of_size_eq_zero e)
    rw [this, lo_irr] at h
    cases h
  · exact e
theorem txs_two : ∀ l : List ByteArray, (∀ s ∈ l, 1 ≤ s.size) → 2 * l.length ≤ txs l
  | [], _ => Nat.le_refl _
  | s :: l, h => by
    have := txs_two l (fun t ht => h t (by simp [ht]))
    have := h s (by simp)
    simp only [txs, List.length_cons]
    omega
/-- Keys that rise have a byte each: there are no more than a byte counts. -/
theorem check_255 {n : NodeV} (h : checkN n = 0) : n.ks.length ≤ 255 := by
  obtain ⟨h1, h2⟩ := check_ok h
  unfold formB at h1
  simp only [Bool.and_eq_true] at h1
  have h3 := txs_two n.ks (fun s hs => lo_pos (rises_pos _ _ h1.1.1.2 s hs))
  unfold sizeN at h2
  omega
theorem WL.more {w0 w : World} {P : Nat} {l m : List Int} (h : WL w0 w P l) (e : l = m) : WL w0 w P m := e ▸ h
end Go.Proofs.Ytkafabcklohlmaa
namespace Go.Proofs.Ytkafabcklohlmaa
set_option maxRecDepth 4000
set_option linter.unusedVariables false
open Go.ChangeShapes Go.WideShapes Go.ChangeAt Go.RowKit

/-- Strings that rise. -/
def Rising (l : List ByteArray) : Prop := l.Pairwise (fun a b => lo a b = true)
theorem rises_pair : ∀ (a : ByteArray) (l : List ByteArray), risesFrom a l = true → Rising l ∧ ∀ s ∈ l, lo a s = true
  | _, [], _ => ⟨List.Pairwise.nil, nofun⟩
  | a, k :: r, h => by
    unfold risesFrom at h
    simp only [Bool.and_eq_true, decide_eq_true_eq] at h
    obtain ⟨h1, h2⟩ := rises_pair k r h.2
    refine ⟨List.Pairwise.cons h2 h1, fun s hs => ?_⟩
    rcases List.mem_cons.1 hs with rfl | hs
    · exact h.1.1
    · exact lo_trans h.1.1 (h2 s hs)
theorem form_rising {n : NodeV} (h : formB n = true) : Rising n.ks := by
  unfold formB at h
  simp only [Bool.and_eq_true] at h
  exact (rises_pair _ _ h.1.1.2).1
theorem rising_at {l : List ByteArray} (h : Rising l) {i j : Nat} {a b : ByteArray} (hij : i < j) (ha : l[i]? = some a) (hb : l[j]? = some b) : lo a b = true := by
  obtain ⟨h1, rfl⟩ := List.getElem?_eq_some_iff.1 ha
  obtain ⟨h2, rfl⟩ := List.getElem?_eq_some_iff.1 hb
  exact List.pairwise_iff_getElem.1 h i j h1 h2 hij
/-- How many stand ahead of a key; its place, and whether it is there. -/
def rankK (l : List ByteArray) (key : ByteArray) : Nat := l.countP (fun x => lo x key)
def hasK (l : List ByteArray) (key : ByteArray) : Bool := l.any (fun x => decide (x = key))
theorem hasK_iff {l : List ByteArray} {key : ByteArray} : hasK l key = true ↔ key ∈ l := by
  unfold hasK
  rw [List.any_eq_true]
  constructor
  · rintro ⟨x, hx, e⟩; rw [decide_eq_true_iff] at e; exact e ▸ hx
  · exact fun h => ⟨key, h, by simp⟩
def findA (n : NodeV) (key : ByteArray) : Int × Bool := ((rankK n.ks key : Int) + (if hasK n.ks key && !n.lf then 1 else 0), hasK n.ks key)
theorem rank_at {l : List ByteArray} {key : ByteArray} (i : Nat) (hi : i ≤ l.length) (h1 : ∀ x s, x < i → l[x]? = some s → lo s key = true) (h2 : ∀ x s, i ≤ x → l[x]? = some s → lo s key = false) : rankK l key = i := by
  unfold rankK
  rw [← List.take_append_drop i l, List.countP_append]
  have e1 : (l.take i).countP (fun x => lo x key) = i := by
    rw [List.countP_eq_length.2 (fun s hs => ?_), List.length_take]
    · omega
    · obtain ⟨x, hx, rfl⟩ := List.getElem_of_mem hs
      rw [List.length_take] at hx
      rw [List.getElem_take]
      exact h1 x _ (by omega) (List.getElem?_eq_getElem (by omega))
  have e2 : (l.drop i).countP (fun x => lo x key) = 0 := by
    rw [List.countP_eq_zero]
    intro s hs
    obtain ⟨x, hx, rfl⟩ := List.getElem_of_mem hs
    rw [List.length_drop] at hx
    have := h2 (i + x) _ (by omega) (List.getElem?_eq_getElem (by omega))
    rw [List.getElem_drop, this]
    decide
  omega
theorem has_at {l : List ByteArray} {key s : ByteArray} (hr : Rising l) (i : Nat) (h1 : ∀ x s, x < i → l[x]? = some s → lo s key = true) (hs : l[i]? = some s) (h2 : lo s key = false) : hasK l key = decide (s = key) := by
  by_cases e : s = key
  · subst e
    rw [decide_eq_true rfl, hasK_iff]
    exact List.mem_of_getElem? hs
  · rw [decide_eq_false e, ← Bool.not_eq_true, hasK_iff]
    intro hm
    obtain ⟨x, hx⟩ := List.getElem?_of_mem hm
    rcases Nat.lt_trichotomy x i with c | c | c
    · have := h1 x key c hx; rw [lo_irr] at this; cases this
    · subst c; rw [hs] at hx; exact e (Option.some.inj hx)
    · have := rising_at hr c hs hx; rw [this] at h2; cases h2
theorem has_none {l : List ByteArray} {key : ByteArray} (h1 : ∀ x s, x < l.length → l[x]? = some s → lo s key = true) : hasK l key = false := by
  rw [← Bool.not_eq_true, hasK_iff]
  intro hm
  obtain ⟨x, hx⟩ := List.getElem?_of_mem hm
  have := h1 x key (List.getElem?_eq_some_iff.1 hx).1 hx
  rw [lo_irr] at this
  cases this
end Go.Proofs.Ytkafabcklohlmaa
namespace Go.Proofs.Ytkafabcklohlmaa
set_option maxRecDepth 4000
set_option linter.unusedVariables false
open Go.ChangeShapes Go.WideShapes Go.ChangeAt Go.RowKit

/-- No more than is looked at. -/
def Few (n : NodeV) : Prop := n.ks.length ≤ 200 ∧ n.vs.length ≤ 200 ∧ n.ps.length ≤ 136
theorem wrap_in (x : Int) (h0 : -9223372036854775808 ≤ x) (h1 : x ≤ 9223372036854775807) : wrap64 x = x := by
  have e := IntWalk.i64_in x (by omega)
  rw [IntKind.wrap_i64] at e
  unfold wrap64
  exact e
def apP : PtrV := ⟨2, 1, List.replicate 32 0, by decide, by decide, by decide, byt_zeros8 32⟩
def aLeaf : NodeV := ⟨true, [], [], []⟩
def aNode : NodeV := ⟨false, [⟨#[98]⟩, ⟨#[100]⟩], [], [apP, apP, apP]⟩
theorem aLeaf_ok : checkN aLeaf = 0 := by decide
theorem aLeaf_sec : secB9 aLeaf = 1 :: 0 :: List.replicate 510 0 := by rfl
theorem aNode_ok : checkN aNode = 0 := by decide +kernel +kernel +kernel
theorem aNode_c : findA aNode ⟨#[99]⟩ = (1, false) := by decide +kernel +kernel +kernel
theorem aNode_d : findA aNode ⟨#[100]⟩ = (2, true) := by decide +kernel +kernel +kernel
theorem build_ap (W : World) : (Instr.build 36 #[(0, .int .u32 2), (1, .int .u64 1)]).run Try.prog W = .ok (.agg (ptrRow apP).toArray) W := by kernel_rfl
theorem ps_row {w : World} {g : Nat} {l : List PtrV} (c : Nat) (h : w.heap[g]? = some (.cells (rowsP l).toArray 36 (0, 0))) : PS w (.slice (some ⟨g, 0, none⟩) l.length c) l := by
  refine ⟨_, c, rfl, fun i q hq => ⟨g, 0, rfl, fun j u hj => ?_⟩⟩
  have hj34 : j < 34 := by have := (List.getElem?_eq_some_iff.1 hj).1; rwa [ptrRow_length] at this
  have e := rowsP_at l i q hq j hj34
  rw [Nat.zero_add, cell_of_row _ _ _ _ _ _ h, List.getElem?_toArray, e, hj]
theorem ss_row {w : World} {g : Nat} {l : List ByteArray} (h : w.heap[g]? = some (.cells (l.map Value.string).toArray 9 (0, 0))) : SS w (.slice (some ⟨g, 0, none⟩) l.length l.length) l := by
  refine ⟨_, _, rfl, Nat.le_refl _, fun i s hs => ⟨g, 0, rfl, ?_⟩⟩
  rw [Nat.zero_add, cell_of_row _ _ _ _ _ _ h, List.getElem?_toArray, List.getElem?_map, hs]
  rfl
theorem three_alloc (w : World) (S R N : Obj) : (((w.alloc S).alloc R).alloc N).heap[w.heap.size]? = some S ∧ (((w.alloc S).alloc R).alloc N).heap[w.heap.size + 1]? = some R ∧ (((w.alloc S).alloc R).alloc N).heap[w.heap.size + 1 + 1]? = some N ∧ Below w.heap.size w (((w.alloc S).alloc R).alloc N) := by
  have s1 : (w.alloc S).heap.size = w.heap.size + 1 := by simp
  have s2 : ((w.alloc S).alloc R).heap.size = w.heap.size + 1 + 1 := by simp
  refine ⟨?_, ?_, ?_, ?_⟩
  · exact (heap_alloc_old _ _ (by rw [s2]; omega)).trans ((heap_alloc_old _ _ (by rw [s1]; omega)).trans (heap_alloc_new w S))
  · refine (heap_alloc_old _ _ (by rw [s2]; omega)).trans ?_
    rw [← s1]
    exact heap_alloc_new _ _
  · rw [← s2]
    exact heap_alloc_new _ _
  · have h1 := (Below.refl w.heap.size w).alloc (Nat.le_refl _) S
    have h2 := h1.alloc h1.size R
    exact h2.alloc h2.size N
theorem aNode_nb : NB aNode := ⟨by decide, by decide, by decide, nofun, by decide⟩
theorem aNode_rise : Rising aNode.ks := form_rising (check_ok aNode_ok).1
end Go.Proofs.Ytkafabcklohlmaa
