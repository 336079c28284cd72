/-
  Acts on datasets: how they come in; what is grown out of nothing.
-/
import Derived.Test.YtkafabcklohlmaaIn
namespace Go.Proofs.Ytkafabcklohlmaa
set_option maxRecDepth 4000
set_option linter.unusedVariables false
open Go.ChangeShapes Go.WideShapes Go.ChangeAt Go.RowKit

structure ActD where
  kd : Int
  a : ByteArray
  b : ByteArray
def actRowD (x : ActD) : List Value := [.int .i64 x.kd, .string x.a, .string x.b]
structure ActOkD (x : ActD) : Prop where
  k0 : -9223372036854775808 ≤ x.kd ∧ x.kd ≤ 9223372036854775807
  za : x.a.size ≤ 140737488351232
  zb : x.b.size ≤ 140737488351232
def RActD : World → ActD → List Value → Prop := fun _ x cs => cs = actRowD x ∧ ActOkD x
theorem opn_act15 : Opn 27 RActD := by
  intro H enc W fuel cs y h hw
  obtain ⟨xs, k, _, hx, hlen, hxl, hfs⟩ := DataW.trod_struct Try.underlying27 h
  rw [show Try.prog.cellsOf 27 = 3 by kernel_rfl] at hlen
  have hxk : xs.length = 3 := hxl
  have hd := congrArg Prod.fst hx
  dsimp only at hd
  clear hx hxl
  match xs, hxk with
  | [y0, y1, y2], _ =>
    have ei : Try.prog.cellsOf 3 = 1 := by kernel_rfl
    have es : Try.prog.cellsOf 9 = 1 := by kernel_rfl
    have hw2 : ∀ n ∈ DataW.weightsEach Try.prog [3, 9, 9] [y0.1, y1.1, y2.1], n ≤ reachBytes := fun n hn => hw n (by rw [hd]; simp only [DataW.weights, Try.underlying27]; exact hn)
    have g0 : DataW.trod enc Try.prog W 0 (fun _ => true) true k 3 ((cs.drop 0).take 1) = some y0 := by have q := hfs 0 _ rfl; rw [← ei]; exact q
    have g1 : DataW.trod enc Try.prog W 0 (fun _ => true) true k 9 ((cs.drop 1).take 1) = some y1 := by have q := hfs 1 _ rfl; rw [← es]; exact q
    have g2 : DataW.trod enc Try.prog W 0 (fun _ => true) true k 9 ((cs.drop 2).take 1) = some y2 := by have q := hfs 2 _ rfl; rw [← es]; exact q
    obtain ⟨kd, r0, k0, k1⟩ := opn_int .i64 _ _ Try.underlying3 wf_i64 _ _ _ _ _ _ g0 (fun n hn => hw2 n (DataW.weights_mem_each (j := 0) rfl rfl n hn))
    obtain ⟨sa, r1, z1⟩ := opn_str Try.underlying9 _ _ _ _ _ _ g1 (fun n hn => hw2 n (DataW.weights_mem_each (j := 1) rfl rfl n hn))
    obtain ⟨sb, r2, z2⟩ := opn_str Try.underlying9 _ _ _ _ _ _ g2 (fun n hn => hw2 n (DataW.weights_mem_each (j := 2) rfl rfl n hn))
    have hcs : cs = (cs.drop 0).take 1 ++ ((cs.drop 1).take 1 ++ (cs.drop 2).take 1) := by
      match cs, hlen with
      | [_, _, _], _ => rfl
    rw [r0, r1, r2] at hcs
    exact ⟨⟨kd, sa, sb⟩, hcs, ⟨k0, k1⟩, z1, z2⟩
theorem opn_acts15 : Opn 23 (RSl RActD 3) := opn_slice 3 Try.underlying23 (by kernel_rfl) (by decide) (of_decide_eq_true (by kernel_rfl)) opn_act15
/-- Acts, as they lie in memory. -/
structure AD (w : World) (a : Option Addr) (x : List ActD) : Prop where
  at_ : ∀ i q, x[i]? = some q → ∃ b off, a = some ⟨b, off, none⟩ ∧ w.rangeAt b (off + i * 3) (actRowD q)
theorem AD.below {w w' : World} {a : Option Addr} {x : List ActD} (h : AD w a x) (q : Below w.heap.size w w') : AD w' a x :=
  ⟨fun i y hy => by obtain ⟨b, off, e, h1⟩ := h.at_ i y hy; exact ⟨b, off, e, range_below h1 q⟩⟩
theorem ad_of {w : World} {x : List ActD} {a : Option Addr} {n c : Nat} (h : SlR RActD 3 w x a n c) : AD w a x ∧ ∀ q ∈ x, ActOkD q := by
  refine ⟨⟨fun i q hq => ?_⟩, fun q hq => ?_⟩
  · obtain ⟨hi, rfl⟩ := List.getElem?_eq_some_iff.1 hq
    obtain ⟨b, off, cs, h1, h2, _, h5⟩ := h.here i hi
    obtain ⟨rfl, ho⟩ := h2
    exact ⟨b, off, h1, h5⟩
  · obtain ⟨i, hi, rfl⟩ := List.getElem_of_mem hq
    obtain ⟨b, off, cs, h1, h2, _, h5⟩ := h.here i hi
    exact h2.2
theorem index_act15 (b off len cap i : Nat) (h : i < len) (W : World) : (Instr.indexAt 23 (.slice (some ⟨b, off, none⟩) len cap) (.int .i64 (i : Int))).run Try.prog W = .ok (.pointer (some ⟨b, off + i * 3, none⟩)) W := by
  obtain ⟨i0, hi, hs⟩ := Option.map_eq_some_iff.1 (show (Try.prog.info? 27).map (·.size) = some 3 by kernel_rfl)
  simp [Instr.indexAt, asIntOf, run_underlying Try.underlying23, sizeOf, typeInfo, hi, hs, h, Addr.add_mid]
theorem act_cellsD {w : World} {b o : Nat} {x : ActD} (h : w.rangeAt b o (actRowD x)) : w.cell? ⟨b, o, none⟩ = some (.int .i64 x.kd) ∧ w.cell? ⟨b, o + 1, none⟩ = some (.string x.a) ∧ w.cell? ⟨b, o + 2, none⟩ = some (.string x.b) :=
  ⟨h 0 _ rfl, h 1 _ rfl, h 2 _ rfl⟩
/-- Grown out of nothing by acts that went well: so many of them at most. -/
structure GD (L : List SetV) (i : Nat) : Prop where
  v : VL L
  n : L.length ≤ i
theorem GD.nil : GD [] 0 := ⟨vl_nil, Nat.le_refl _⟩
theorem GD.up {L : List SetV} {i : Nat} (h : GD L i) : GD L (i + 1) := ⟨h.v, Nat.le_succ_of_le h.n⟩
theorem lenD_le (n : Nat) (k : Int) : lenD n k ≤ (n : Int) + 1 := by unfold lenD; split; omega; split <;> omega
theorem GD.next {L : List SetV} {i : Nat} (h : GD L i) {k : Int} {a b : ByteArray} (he : (doD L k a b).1 = 0) : GD (doD L k a b).2 (i + 1) := by
  obtain ⟨h1, h2⟩ := do_valid h.v k a b he
  have := lenD_le L.length k
  have := h.n
  exact ⟨h1, by omega⟩
theorem own_lit15 (w : World) (B : Nat) (hB : B ≤ w.heap.size) : OWS (w.alloc (.cells #[] 38)) B (.slice (some ⟨w.heap.size, 0, none⟩) 0 0) [] :=
  ⟨rfl, .inr ⟨w.heap.size, 0, #[], rfl, hB, heap_alloc_new w _, Nat.le_refl _, by decide, rfl, rfl⟩⟩
/-- A copy of one's own. -/
theorem copy15 {w : World} {u : Value} {M : List SetV} (h : LS w u M) (hn : M.length ≤ 10000) (ty : TypeId) :
    ∃ v' w', (Builtin.append_ #[22, 22] ty #[.slice (some ⟨w.heap.size, 0, none⟩) 0 0, u]).run Try.prog (w.alloc (.cells #[] 38)) = .ok v' w' ∧ OWS w' w.heap.size v' M ∧ Below w.heap.size w w' := by
  obtain ⟨v', w', h1, h2, h3⟩ := ows_app (own_lit15 w w.heap.size (Nat.le_refl _)) (ba15 w (.cells #[] 38)).size (h.below (ba15 w _)) (by simp only [List.length_nil]; omega) ty
  exact ⟨v', w', h1, h2, (own_lit15 w w.heap.size (Nat.le_refl _)).grown h3 (ba15 w _)⟩
end Go.Proofs.Ytkafabcklohlmaa
