/-
  codec's Writer in memory: bytes.Clone; what is laid one behind the other.
-/
import Derived.Test.YtbnclmlbennhaaaTch
namespace Go.Proofs.Ytbnclmlbennhaaa
set_option maxRecDepth 4000
open Go.RowKit

theorem beq_nil (a : Option Addr) (n c : Nat) (W : World) : (binOp .eql 28 (.slice a n c) (.slice none 0 0)).run Try.prog W = .ok (.bool a.isNone) W := Lib.run_eql_slice_nil W _ _ a n c 0 0 Try.underlying28
set_option maxRecDepth 100000 in
set_option maxHeartbeats 1600000 in
theorem clone_any (v : Value) (l : List Int) (w : World) (h : BS w v l) (h63 : l.length ≤ 140737488351232) :
    Calls Try.prog 35 #[v] w fun e w' => ∃ v', e = .returned v' ∧ w'.ownsRow w.heap.size 5 1 v' l.length (l.map (Value.int .u8)) ∧ Below w.heap.size w w' := by
  have h0 := h
  obtain ⟨ad, cap, rfl, hy, hn, hc⟩ := h
  cases ad with
  | none =>
    obtain rfl := hn rfl
    obtain rfl : l = [] := by
      rcases hc with h | ⟨b, off, h, _⟩
      · exact h
      · cases h
    clear h0 hc
    have hq := beq_nil none 0 0
    go_enter Try.func35, Try.ntmps35
    go_wp2_with fail
    go_ret
    exact ⟨_, rfl, World.ownsRow_nil _ _ _ _, Below.refl _ _⟩
  | some ad =>
    have hb1 := (Below.refl w.heap.size w).alloc (Nat.le_refl _) (.cells #[] 5)
    have ho := World.ownsRow_lit (base := w.heap.size) (e := 5) (size := 1) w #[] 0 (Nat.le_refl _) (by unfold maxLen; omega) rfl
    have HO := Lib.hid ho
    have HB1 := Lib.hid hb1
    have HX := Lib.hid (h0.kept hb1)
    have HL := Lib.hid h63
    clear h0 hc ho hb1 h63
    have hq := beq_nil (some ad) l.length cap
    go_enter Try.func35, Try.ntmps35
    go_wp2_with (first
      | (at_builtin; (refine wpList_append_BS (o := ⟨some 7, _, _, _, _, _⟩) rfl _ _ rfl w.heap.size (.slice (some ⟨w.heap.size, 0, none⟩) 0 0) 0 [] rfl HO.out _ l rfl HX.out (by have := HL.out; omega) HB1.out.size ?_); intro v6 w6 ho6 hg6))
    have HB := Lib.hid (HB1.out.grown hg6 HB1.out.size (by intro k hk; simp [Value.ownBlock] at hk; omega))
    have H1 := Lib.hid ho6
    clear ho6 hg6
    go_wp2_with fail
    go_ret
    exact ⟨_, rfl, by simpa using H1.out, HB.out⟩
/-- A Writer in memory: its row holds l. -/
structure WO (w : World) (P B : Nat) (v : Value) (l : List Int) : Prop where
  cell : w.heap[P]? = some (.cells #[v] 31 (0, 0))
  own : w.ownsRow B 5 1 v l.length (l.map (Value.int .u8))
  byt : Byt l
theorem own_type {w : World} {B n : Nat} {e : TypeId} {k : Nat} {v : Value} {xs : List Value} (h : w.ownsRow B e k v n xs) {g : Nat} (hg : v.ownBlock = some g) : ∃ cur, w.heap[g]? = some (.cells cur e (0, 0)) := by
  rcases h.2 with ⟨rfl, _⟩ | ⟨g', cap, cur, rfl, _, hgg, _⟩
  · cases hg
  · obtain rfl : g' = g := by simpa [Value.ownBlock] using hg
    exact ⟨cur, hgg⟩
theorem own_ne {w : World} {B n P t : Nat} {e : TypeId} {k : Nat} {v : Value} {xs : List Value} {cs : Array Value} {fr : Nat × Nat} (h : w.ownsRow B e k v n xs) (hP : w.heap[P]? = some (.cells cs t fr)) (ht : t ≠ e) : v.ownBlock ≠ some P := by
  intro hg
  obtain ⟨cur, hc⟩ := own_type h hg
  rw [hP] at hc
  simp only [Option.some.injEq, Obj.cells.injEq] at hc
  exact ht hc.2.1
theorem WO.ne {w : World} {P B : Nat} {v : Value} {l : List Int} (h : WO w P B v l) : v.ownBlock ≠ some P := own_ne h.own h.cell (by decide)
theorem WO.lt {w : World} {P B : Nat} {v : Value} {l : List Int} (h : WO w P B v l) : P < w.heap.size := (Array.getElem?_eq_some_iff.1 h.cell).1
theorem WO.touch {w w' : World} {P B : Nat} {v : Value} {l : List Int} {m : List Nat} (h : WO w P B v l) (t : Touch m w w') (hP : P ∉ m) (hv : ∀ g, v.ownBlock = some g → g ∉ m) : WO w' P B v l :=
  ⟨(t.block P h.lt hP).trans h.cell, own_touch h.own t hv, h.byt⟩
theorem WO.below {w w' : World} {P B : Nat} {v : Value} {l : List Int} (h : WO w P B v l) (b : Below w.heap.size w w') : WO w' P B v l :=
  h.touch (m := []) (Touch.of_below b) (by simp) (by simp)
/-- A step of a Writer: it holds l behind it, and of what was there its own blocks alone have changed. -/
def WStep (w w' : World) (P B : Nat) (v : Value) (l : List Int) : Prop :=
  ∃ v', WO w' P B v' l ∧ Touch (P :: v.ownBlock.toList) w w' ∧ (v'.ownBlock = v.ownBlock ∨ ∃ g, v'.ownBlock = some g ∧ w.heap.size ≤ g)
theorem WStep.refl {w : World} {P B : Nat} {v : Value} {l : List Int} (h : WO w P B v l) : WStep w w P B v l := ⟨v, h, Touch.refl _ _, .inl rfl⟩
theorem WStep.of_below {w w1 w' : World} {P B : Nat} {v : Value} {l : List Int} (b : Below w.heap.size w w1) (s : WStep w1 w' P B v l) : WStep w w' P B v l := by
  obtain ⟨v', h, t, n⟩ := s
  refine ⟨v', h, (Touch.of_below b).trans t, ?_⟩
  rcases n with n | ⟨g, n, hg⟩
  · exact .inl n
  · exact .inr ⟨g, n, Nat.le_trans b.size hg⟩
theorem wstep_trans {w w1 w2 : World} {P B : Nat} {v v1 : Value} {l : List Int} (t : Touch (P :: v.ownBlock.toList) w w1) (n : v1.ownBlock = v.ownBlock ∨ ∃ g, v1.ownBlock = some g ∧ w.heap.size ≤ g) (s : WStep w1 w2 P B v1 l) : WStep w w2 P B v l := by
  obtain ⟨v', h, t2, n2⟩ := s
  have t3 : Touch (P :: v.ownBlock.toList) w w2 := by
    refine ⟨t2.os.trans t.os, t2.tape.trans t.tape, t2.output.trans t.output, Nat.le_trans t.size t2.size, fun k hk hne => ?_⟩
    refine (t2.block k (Nat.lt_of_lt_of_le hk t.size) ?_).trans (t.block k hk hne)
    intro hm
    rcases n with n | ⟨g, n, hg⟩
    · rw [n] at hm; exact hne hm
    · rw [n] at hm
      simp only [Option.toList_some, List.mem_cons, List.not_mem_nil, or_false] at hm hne
      rcases hm with rfl | rfl
      · exact hne (.inl rfl)
      · omega
  refine ⟨v', h, t3, ?_⟩
  rcases n2 with n2 | ⟨g, n2, hg⟩
  · rw [n2]
    exact n
  · exact .inr ⟨g, n2, Nat.le_trans t.size hg⟩
theorem WStep.grow {w w1 w2 : World} {P B : Nat} {v : Value} {l l' : List Int} (s : WStep w w1 P B v l) (q : ∀ v1, WO w1 P B v1 l → WStep w1 w2 P B v1 l') : WStep w w2 P B v l' := by
  obtain ⟨v1, h, t, n⟩ := s
  exact wstep_trans t n (q v1 h)
set_option maxRecDepth 100000 in
set_option maxHeartbeats 1600000 in
theorem wraw_any (P B : Nat) (v vx : Value) (l x : List Int) (w : World) (h : WO w P B v l) (hx : BS w vx x) (h63 : l.length + x.length ≤ 140737488351232) (hB : B ≤ w.heap.size) :
    Calls Try.prog 47 #[.pointer (some ⟨P, 0, none⟩), vx] w fun e w' => e = .returned (.int .i64 0) ∧ WStep w w' P B v (l ++ x) := by
  obtain ⟨av, cv, rfl, _, _⟩ := own_bs h.own rfl h.byt
  obtain ⟨ax, cx, rfl, _⟩ := id hx
  obtain ⟨v', w1, hr, h1, h2, h3⟩ := run_append_BS_at w B l.length _ _ _ x h.own hx h63 hB
  obtain ⟨a1, cp1, rfl⟩ : ∃ a1 cp1, v' = .slice a1 (l.length + x.length) cp1 := by
    rcases h1.2 with ⟨h5, h6⟩ | ⟨g', c, cur, h5, _⟩
    · exact ⟨_, _, by rw [h5, h6]⟩
    · exact ⟨_, _, h5⟩
  have hc1 : w1.heap[P]? = some (.cells #[.slice av l.length cv] 31 (0, 0)) := (h2.block P h.lt (fun e => h.ne e.symm)).trans h.cell
  have hne : (Value.slice a1 (l.length + x.length) cp1).ownBlock ≠ some P := own_ne h1 hc1 (by decide)
  have hO := (Only.refl P w1).setCell 0 (.slice a1 (l.length + x.length) cp1)
  have HS := Lib.hid (show WStep w (w1.setCell ⟨P, 0, none⟩ (.slice a1 (l.length + x.length) cp1)) P B (.slice av l.length cv) (l ++ x) from ⟨_, ⟨heap_setCell_same _ _ _ _ _ _ hc1, by
      have q := own_touch (l := [P]) h1 (Touch.of_only hO (by simp)) (fun g hg e => by
        simp only [List.mem_cons, List.not_mem_nil, or_false] at e
        exact hne (e ▸ hg))
      rw [List.length_append, List.map_append]; exact q, fun z hz => by
        rcases List.mem_append.1 hz with hz | hz
        · exact h.byt z hz
        · exact hx.byt z hz⟩,
      ((Touch.grown h2).more (fun k hk => List.mem_cons_of_mem _ hk)).trans (Touch.of_only hO (List.mem_cons_self ..)), by
        rcases h3 with h3 | h3
        · exact .inl h3
        · exact .inr ⟨_, h3, Nat.le_refl _⟩⟩)
  have c0 := cell_of_row _ P 0 _ _ _ h.cell
  have c1 := cell_of_row _ P 0 _ _ _ hc1
  have f1 := frozen_of_row w1 P 0 _ _ hc1
  simp at c0 c1
  clear h hx h63 hB h1 h2 h3 hc1 hne hO
  go_enter Try.func47, Try.ntmps47
  have HR := Lib.hid hr
  clear hr
  go_wp2_with (first
    | (at_builtin; refine wpList_append_run (o := ⟨some 13, _, _, _, _, _⟩) rfl _ _ _ _ rfl _ _ _ _ rfl rfl HR.out ?_))
  go_ret
  exact ⟨rfl, HS.out⟩
end Go.Proofs.Ytbnclmlbennhaaa
