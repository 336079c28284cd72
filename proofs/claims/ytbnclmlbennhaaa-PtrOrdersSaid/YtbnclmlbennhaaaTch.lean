/-
  Worlds in which some blocks may have changed, and new ones may have been made; appends into a row of one's own, with the block that it has then.
-/
import Derived.Test.YtbnclmlbennhaaaTxt
import Derived.Maps.AppendAt
namespace Go.Proofs.Ytbnclmlbennhaaa
set_option maxRecDepth 4000
open Go.RowKit

/-- Of what was there the blocks of l alone may have changed. -/
structure Touch (l : List Nat) (w w' : World) : Prop where
  os : w'.os = w.os
  tape : w'.tape = w.tape
  output : w'.output = w.output
  size : w.heap.size ≤ w'.heap.size
  block : ∀ k, k < w.heap.size → k ∉ l → w'.heap[k]? = w.heap[k]?
theorem Touch.refl (l : List Nat) (w : World) : Touch l w w := ⟨rfl, rfl, rfl, Nat.le_refl _, fun _ _ _ => rfl⟩
theorem Touch.trans {l : List Nat} {a b c : World} (h : Touch l a b) (q : Touch l b c) : Touch l a c :=
  ⟨q.os.trans h.os, q.tape.trans h.tape, q.output.trans h.output, Nat.le_trans h.size q.size, fun k hk hn => (q.block k (Nat.lt_of_lt_of_le hk h.size) hn).trans (h.block k hk hn)⟩
theorem Touch.more {l m : List Nat} {a b : World} (h : Touch l a b) (hm : ∀ k ∈ l, k ∈ m) : Touch m a b := ⟨h.os, h.tape, h.output, h.size, fun k hk hn => h.block k hk (fun e => hn (hm k e))⟩
theorem Touch.of_below {l : List Nat} {a b : World} (h : Below a.heap.size a b) : Touch l a b := ⟨h.os, h.tape, h.output, h.size, fun k hk _ => h.block k hk⟩
theorem Touch.of_only {l : List Nat} {g : Nat} {a b : World} (h : Only g a b) (hg : g ∈ l) : Touch l a b :=
  ⟨(h.bel 0 (Nat.zero_le _)).os, (h.bel 0 (Nat.zero_le _)).tape, (h.bel 0 (Nat.zero_le _)).output, Nat.le_of_eq h.size.symm, fun k _ hn => h.rest k (fun e => hn (e ▸ hg))⟩
theorem Touch.below {l : List Nat} {a b : World} {B : Nat} (h : Touch l a b) (hB : B ≤ a.heap.size) (hl : ∀ k ∈ l, B ≤ k) : Below B a b :=
  ⟨h.os, h.tape, h.output, h.size, fun k hk => h.block k (by omega) (fun e => by have := hl k e; omega)⟩
theorem Touch.arr {l : List Nat} {a b : World} {g t : Nat} {L : List (BitVec 8)} (h : Touch l a b) (q : ArrY a g t L) (hg : g ∉ l) : ArrY b g t L := (h.block g (zlt q) hg).trans q
theorem own_touch {l : List Nat} {B n k : Nat} {e : TypeId} {v : Value} {xs : List Value} {w w' : World} (h : w.ownsRow B e k v n xs) (q : Touch l w w') (hne : ∀ g, v.ownBlock = some g → g ∉ l) : w'.ownsRow B e k v n xs := by
  refine ⟨h.1, ?_⟩
  rcases h.2 with hn | ⟨g, cap, cur, rfl, hb, hgg, rest⟩
  · exact .inl hn
  · exact .inr ⟨g, cap, cur, rfl, hb, (q.block g (Array.getElem?_eq_some_iff.1 hgg).1 (hne g rfl)).trans hgg, rest⟩
theorem Touch.grown {w w' : World} {row : Option Nat} (h : w.grownBy w' row) : Touch row.toList w w' :=
  ⟨h.os, h.tape, h.output, h.size, fun k hk hn => h.block k hk (fun e => hn (by rw [← e]; simp))⟩
theorem Touch.bs {l : List Nat} {a b : World} {v : Value} {xs : List Int} (h : Touch l a b) (q : BS a v xs) (hg : ∀ g, v.ownBlock = some g → g ∉ l) : BS b v xs := by
  obtain ⟨ad, cap, rfl, hy, hn, hc⟩ := q
  refine ⟨ad, cap, rfl, hy, hn, ?_⟩
  rcases hc with h0 | ⟨g, off, rfl, hc⟩
  · exact .inl h0
  · refine .inr ⟨g, off, rfl, fun i hi => ?_⟩
    have c0 := hc i hi
    have e : b.heap[g]? = a.heap[g]? := h.block g (block_lt_of_cell c0) (hg g rfl)
    rw [← c0]
    simp [World.cell?, e]
/-- 'append(v, x...)', v the call's own, x any slice of bytes, with the block behind it. -/
theorem run_append_BS_at (w : World) (base n : Nat) (v vx : Value) (xs : List Value) (l : List Int) (hown : w.ownsRow base 5 1 v n xs) (hB : BS w vx l) (h63 : n + l.length ≤ 140737488351232) (hbase : base ≤ w.heap.size) :
    ∃ v' w', (Builtin.append_ #[28, 28] 28 #[v, vx]).run Try.prog w = .ok v' w' ∧ w'.ownsRow base 5 1 v' (n + l.length) (xs ++ l.map (Value.int .u8)) ∧ w.grownBy w' v.ownBlock ∧ (v'.ownBlock = v.ownBlock ∨ v'.ownBlock = some w.heap.size) := by
  obtain ⟨i0, hi, hz0, hz1, hz2⟩ := info_parts info_u8
  obtain ⟨ad, cap, rfl, hb, hn, hc⟩ := hB
  cases ad with
  | none =>
    obtain rfl := hn rfl
    have hl : l = [] := by
      rcases hc with h | ⟨b, off, h, _⟩
      · exact h
      · cases h
    subst hl
    exact ⟨v, w, run_append_owned_none (P := Try.prog) (w := w) base _ _ _ i0 1 Try.underlying28 hi v n xs hown, by simpa using hown, ⟨rfl, rfl, rfl, Nat.le_refl _, fun _ _ _ => rfl⟩, .inl rfl⟩
  | some ad =>
    obtain ⟨v', w', h1, h2, h3, _, h5⟩ := run_append_own_at (P := Try.prog) w base 28 28 5 i0 _ 1 1 Try.underlying28 hi hz0 hz1 hz2 rfl (by decide) v n xs hown ad l.length cap (l.map (Value.int .u8)) (by simp) (by
      intro j u hj
      have hjl : j < l.length := by
        have := (List.getElem?_eq_some_iff.1 hj).1
        simpa using this
      rcases hc with hc | ⟨b, off, he, hc⟩
      · subst hc; simp at hjl
      · obtain rfl := Option.some.inj he
        have e2 : (⟨b, off, none⟩ : Addr).add j = ⟨b, off + j, none⟩ := by unfold Addr.add; split <;> simp_all
        rw [e2, hc j hjl]
        simp [hjl] at hj
        simp [hjl, hj]) (by
      intro u hu
      simp only [List.mem_map] at hu
      obtain ⟨z, _, rfl⟩ := hu
      rfl) (by unfold maxLen; omega) (by omega) hbase
    exact ⟨v', w', h1, h2, h3, h5⟩
/-- An append whose equation is there. -/
theorem wpList_append_run {P : Program} {ops : Array Oper} {rest : List Oper} {o : Oper} {a : Act} {w : World} {Q : Exit → Act → World → Prop} (hgd : o.guard = none) (s x : Operand) (dT sT : TypeId)
    (ho : o.op = .call { callee := .builtin .append, args := #[s, x], argTypes := #[dT, sT] }) (v vx v' : Value) (w' : World) (hs : a.eval s = v) (hx : a.eval x = vx)
    (hr : (Builtin.append_ #[dT, sT] o.type #[v, vx]).run P w = .ok v' w') (h : wpList P ops Q rest (a.put o.dst v') w') : wpList P ops Q (o :: rest) a w :=
  wpList_plain hgd fun _ hK => wp_append_run7 s x dT sT ho v vx v' w' hs hx hr (hK _ _ h)
/-- What a row of one's own reads as. -/
theorem own_bs {w : World} {base n : Nat} {v : Value} {l : List Int} (h : w.ownsRow base 5 1 v n (l.map (Value.int .u8))) (hl : l.length = n) (hb : Byt l) :
    ∃ a cap, v = .slice a n cap ∧ n ≤ cap ∧ BS w (.slice a n cap) l := by
  have hbs := BS.of_own h hl hb
  rcases h.2 with ⟨rfl, rfl⟩ | ⟨g, cap, cur, rfl, _, _, h1, h2, _⟩
  · exact ⟨none, 0, rfl, Nat.le_refl _, hbs⟩
  · exact ⟨_, cap, rfl, h1, hbs⟩
end Go.Proofs.Ytbnclmlbennhaaa
