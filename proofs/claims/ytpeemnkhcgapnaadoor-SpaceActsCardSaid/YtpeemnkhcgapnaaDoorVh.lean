/-
  Layer 11's laws: rows of addresses that a law makes, their parts, and one behind the other.
-/
import Derived.Test.YtpeemnkhcgapnaaDoorVg
namespace Go.Proofs.YtpeemnkhcgapnaaDoor
set_option maxRecDepth 4000
set_option linter.unusedVariables false
open Go.ChangeShapes Go.WideShapes Go.ChangeAt Go.RowKit

theorem run_append_US (w : World) (base n m c : Nat) (v : Value) (a : Option Addr) (xs l : List Nat) (hown : w.ownsRow base 31 1 v n (u32n xs)) (hU : US w a m c l) (hc : a = none → c = 0) (h63 : n + m ≤ 1000000000) (hbase : base ≤ w.heap.size) :
    ∃ v' w', (Builtin.append_ #[32, 32] 32 #[v, .slice a m c]).run Tryd.prog w = .ok v' w' ∧ w'.ownsRow base 31 1 v' (n + m) (u32n (xs ++ l)) ∧ w.grownBy w' v.ownBlock ∧ (v'.ownBlock = v.ownBlock ∨ v'.ownBlock = some w.heap.size) := by
  obtain ⟨i0, hi, hz0, hz1, hz2⟩ := info_parts info_u32n
  cases a with
  | none =>
    obtain rfl := hc rfl
    have hl : l = [] := by
      rcases hU.cells with h | ⟨b, off, h, _⟩
      · exact h
      · cases h
    subst hl
    have hm : m = 0 := by have := hU.len; simpa using this.symm
    subst hm
    exact ⟨v, w, run_append_owned_none (P := Tryd.prog) (w := w) base _ _ _ i0 1 Tryd.underlying32 hi v n _ hown, by simpa using hown, ⟨rfl, rfl, rfl, Nat.le_refl _, fun _ _ _ => rfl⟩, .inl rfl⟩
  | some ad =>
    have hlen := hU.len
    obtain ⟨v', w', h1, h2, h3, _, h5⟩ := run_append_own_at (P := Tryd.prog) w base 32 32 31 i0 _ 1 4 Tryd.underlying32 hi hz0 hz1 hz2 rfl (by decide) v n _ hown ad m c (u32n l) (by rw [u32n_len]; omega) (by
      intro j u hj
      have hjl : j < l.length := by
        have := (List.getElem?_eq_some_iff.1 hj).1
        rwa [u32n_len] at this
      rcases hU.cells with h0 | ⟨b, off, he, hcc⟩
      · rw [h0] at hjl; simp at hjl
      · obtain rfl := Option.some.inj he
        have e2 : (⟨b, off, none⟩ : Addr).add j = ⟨b, off + j, none⟩ := by unfold Addr.add; split <;> simp_all
        rw [e2, hcc j (by omega)]
        rw [u32n_at _ _ hjl] at hj
        exact hj) (by
      intro u hu
      simp only [u32n, List.mem_map] at hu
      obtain ⟨z, _, rfl⟩ := hu
      rfl) (by unfold maxLen; omega) (by omega) hbase
    exact ⟨v', w', h1, by rw [u32n_append]; exact h2, h3, h5⟩
theorem run_lit0 (W : World) : (Instr.buildSlice 32 0 #[]).run Tryd.prog W = .ok (.slice (some ⟨W.heap.size, 0, none⟩) 0 0) (W.alloc (.cells #[] 31)) := by
  obtain ⟨i0, hi0, _⟩ := info_parts info_u32n
  simp [Instr.buildSlice, run_underlying Tryd.underlying32, sizeOf, typeInfo, hi0, Instr.fill, newRow]
  try exact congrArg (fun x => W.alloc (Obj.cells x 31)) (Array.eq_empty_of_size_eq_zero (by simp))
theorem own_lit0 (w : World) (B : Nat) (hB : B ≤ w.heap.size) : (w.alloc (.cells #[] 31)).ownsRow B 31 1 (.slice (some ⟨w.heap.size, 0, none⟩) 0 0) 0 (u32n []) := by
  refine ⟨by simp [u32n], .inr ⟨w.heap.size, 0, #[], rfl, hB, heap_alloc_new w _, Nat.le_refl _, by decide, rfl, rfl⟩⟩
theorem run_lit0d (W : World) : (Instr.buildSlice 32 0 #[]).run Tryd.prog W.drew = .ok (.slice (some ⟨W.heap.size, 0, none⟩) 0 0) (W.drew.alloc (.cells #[] 31)) := run_lit0 W.drew
theorem own_lit0d (w : World) (B : Nat) (hB : B ≤ w.heap.size) : (w.drew.alloc (.cells #[] 31)).ownsRow B 31 1 (.slice (some ⟨w.heap.size, 0, none⟩) 0 0) 0 (u32n []) := own_lit0 w.drew B hB
/-- A part of a row of one's own. -/
theorem us_cut (W : World) (B len cap lo hi : Nat) (a : Option Addr) (l : List Nat) (ho : OU W B (.slice a len cap) l) (hl : l.length = len) (hs : ∀ x ∈ l, x < 4294967296) (h1 : lo ≤ hi) (h2 : hi ≤ len) :
    ∃ a2 : Option Addr, (hi = len → ∀ W', (Instr.slice 32 (.slice a len cap) (some (.int .i64 (lo : Int))) none none).run Tryd.prog W' = .ok (.slice a2 (hi - lo) (cap - lo)) W') ∧
      (lo = 0 → ∀ W', (Instr.slice 32 (.slice a len cap) none (some (.int .i64 (hi : Int))) none).run Tryd.prog W' = .ok (.slice a2 (hi - lo) (cap - lo)) W') ∧
      US W a2 (hi - lo) (cap - lo) ((l.drop lo).take (hi - lo)) ∧ (a2 = none → cap - lo = 0) ∧ (∀ b off, a2 = some ⟨b, off, none⟩ → B ≤ b) := by
  obtain ⟨i0, hi0, hs0⟩ := Option.map_eq_some_iff.1 (show (Tryd.prog.info? 31).map (·.size) = some 1 by kernel_rfl)
  have hu : US W a len cap l := us_own ho hs hl.symm
  have hsh : (a = none ∧ cap = 0 ∧ len = 0) ∨ ∃ g, a = some ⟨g, 0, none⟩ ∧ B ≤ g ∧ len ≤ cap := by
    subst hl
    rcases ho.2 with ⟨hv, h0⟩ | ⟨g, cp, cur, hv, hg, _, hc, _⟩
    · injection hv with e1 e2 e3
      exact .inl ⟨e1, e3, h0⟩
    · injection hv with e1 e2 e3
      exact .inr ⟨g, e1, hg, by omega⟩
  have hcap : len ≤ cap := by
    rcases hsh with ⟨_, h, h'⟩ | ⟨_, _, _, h⟩ <;> omega
  have hlen : ((l.drop lo).take (hi - lo)).length = hi - lo := by rw [List.length_take, List.length_drop]; omega
  refine ⟨if cap = lo then a else a.map (·.add (lo * 1)), ?_, ?_, ⟨hlen, fun x hx => hs x (List.mem_of_mem_drop (List.mem_of_mem_take hx)), ?_⟩, ?_, ?_⟩
  · rintro rfl W'
    have b2 := ybound_ok lo hi .sliceB h1 W'
    simp [Instr.slice, run_underlying Tryd.underlying32, Instr.sliceBounds, sizeOf, typeInfo, hi0, hs0, b2]
  · rintro rfl W'
    have b1 := ybound_ok hi cap .sliceAcap (by omega) W'
    simp [Instr.slice, run_underlying Tryd.underlying32, Instr.sliceBounds, sizeOf, typeInfo, hi0, b1]
  · by_cases h0 : (l.drop lo).take (hi - lo) = []
    · exact .inl h0
    · right
      have hpos : 0 < hi - lo := by rw [← hlen]; exact List.length_pos_iff.2 h0
      rcases hu.cells with hc | ⟨b, off, rfl, hc⟩
      · rw [hc] at hl; simp at hl; omega
      · refine ⟨b, off + lo, ?_, fun i hi' => ?_⟩
        · rw [if_neg (by omega)]
          simp [Addr.add_mid]
        · have := hc (lo + i) (by omega)
          rw [← Nat.add_assoc] at this
          rw [this, List.getD_eq_getElem?_getD, List.getD_eq_getElem?_getD, List.getElem?_take, if_pos hi', List.getElem?_drop]
  · intro h
    rcases hsh with ⟨_, h0, _⟩ | ⟨g, rfl, _, _⟩
    · omega
    · by_cases e : cap = lo
      · omega
      · rw [if_neg e] at h; simp at h
  · intro b off h
    rcases hsh with ⟨rfl, _, _⟩ | ⟨g, rfl, hg, _⟩
    · simp at h
    · by_cases e : cap = lo
      · rw [if_pos e] at h
        simp at h; omega
      · rw [if_neg e] at h
        simp [Addr.add_mid] at h; omega
theorem own_ge11 {B n k : Nat} {e : TypeId} {v : Value} {xs : List Value} {w : World} (h : w.ownsRow B e k v n xs) : ∀ g, v.ownBlock = some g → B ≤ g := by
  rcases h.2 with ⟨rfl, _⟩ | ⟨g', cap, cur, rfl, hb, _⟩
  · intro g hg; simp [Value.ownBlock] at hg
  · intro g hg
    simp only [Value.ownBlock, Option.some.injEq] at hg
    omega
/-- These are taken, each once; how many are left. -/
def MK (F : Nat → Bool) (L : List Nat) : Prop := (∀ x ∈ L, F x = false ∧ 2 ≤ x ∧ x < 64) ∧ L.Nodup ∧ cnt F 64 + L.length = 62
theorem mk_none : MK (allF 64) [] := ⟨by simp, List.nodup_nil, by decide⟩
theorem mk_add {F : Nat → Bool} {L : List Nat} {x : Nat} (h : MK F L) (h0 : 2 ≤ x) (h1 : x < 64) (hF : F x = true) : MK (updF F x false) (L ++ [x]) := by
  obtain ⟨m1, m2, m3⟩ := h
  have hx : x ∉ L := fun hx => by have := (m1 x hx).1; rw [hF] at this; cases this
  refine ⟨fun y hy => ?_, ?_, ?_⟩
  · rcases List.mem_append.1 hy with h2 | h2
    · rw [updF_other F x y false (by intro e; rw [e] at h2; exact hx h2)]; exact m1 y h2
    · simp at h2; subst h2; exact ⟨updF_same _ _ _, h0, h1⟩
  · rw [List.nodup_append]
    exact ⟨m2, by simp, fun a ha b hb => by simp at hb; subst hb; intro e; subst e; exact hx ha⟩
  · have := cnt_drop h1 hF
    rw [List.length_append, List.length_singleton]; omega
/-- These are taken, each once. -/
def MG (G : Nat → Bool) (M : List Nat) : Prop := (∀ x ∈ M, G x = false ∧ 2 ≤ x ∧ x < 64) ∧ M.Nodup
theorem mg_turn {F : Nat → Bool} {L : List Nat} (h : MK F L) (q : Nat) : MG F (L.drop q ++ L.take q) := by
  obtain ⟨m1, m2, _⟩ := h
  have hp : (L.drop q ++ L.take q).Perm L := by
    refine List.perm_append_comm.trans ?_
    rw [List.take_append_drop]
  exact ⟨fun x hx => m1 x (hp.mem_iff.1 hx), hp.nodup_iff.2 m2⟩
theorem cnt_back {F : Nat → Bool} {a n : Nat} (h1 : a < n) (h : F a = false) : cnt (updF F a true) n = cnt F n + 1 := by
  have := cnt_upd F a true n
  rw [if_neg (by simp [h]), if_pos ⟨h1, rfl⟩] at this
  omega
theorem mg_next {G : Nat → Bool} {M : List Nat} {j : Nat} (h : MG G (M.drop j)) (hj : j < M.length) :
    (G (M.getD j 0) = false ∧ 2 ≤ M.getD j 0 ∧ M.getD j 0 < 64) ∧ MG (updF G (M.getD j 0) true) (M.drop (j + 1)) ∧ ∀ n, M.getD j 0 < n → cnt (updF G (M.getD j 0) true) n = cnt G n + 1 := by
  have e : M.drop j = M.getD j 0 :: M.drop (j + 1) := by
    rw [List.drop_eq_getElem_cons hj]; simp [List.getD, hj]
  rw [e] at h
  obtain ⟨h1, h2⟩ := h
  have hx := h1 _ (List.mem_cons_self ..)
  rw [List.nodup_cons] at h2
  refine ⟨hx, ⟨fun y hy => ?_, h2.2⟩, fun n hn => cnt_back hn hx.1⟩
  rw [updF_other G (M.getD j 0) y true (by intro q; rw [q] at hy; exact h2.1 hy)]
  exact h1 y (List.mem_cons_of_mem _ hy)
end Go.Proofs.YtpeemnkhcgapnaaDoor
