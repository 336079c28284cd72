/-
  What the row's condition and its arguments give the walks: the table of the rounds; slices of bytes, numbers, hashes by value.
-/
import Derived.Test.YtfgdddejpdjllaaDoorSha1
import Derived.ProofKit
import Derived.LaidMore
import Derived.OpenShut
import Derived.Stop.Joined
import Derived.SizedLaws
import Derived.ChangeOld
import Derived.Below
import Derived.ShutString
namespace Go.Proofs.YtfgdddejpdjllaaDoor
set_option maxRecDepth 4000
open Go.ChangeShapes Go.WideShapes Go.ChangeAt Go.RowKit

theorem own2 : ownKnob Tryd.prog.godebug = none := by kernel_rfl
theorem laidOut2 : laidOutB Tryd.prog = true := by kernel_rfl
theorem gRounds : Tryd.prog.globalNamed "banyan/sha.roundNumbers" = some 0 := by kernel_rfl
theorem tRounds : (Tryd.prog.globals[0]?).map (·.type) = some 124 := by kernel_rfl
theorem door_met (os : Os) (args : Array Value) : laidMetH Tryd.prog [("banyan/sha.roundNumbers", Rows.laid_banyan_sha_roundNumbers)] ((World.doorLaid Tryd.prog 400 os).forCall (fun _ _ => 0) ⟨#[], args, []⟩).memory :=
  laidMetH_of_parts3 (fuel := 8) (laidMet_of_run' 8 (by kernel_rfl) (by kernel_rfl)) (by kernel_rfl) (by kernel_rfl)
def KLits : List (DataW Unit) := KS.map fun b => .lit (.int .u32 (wv b))
set_option maxRecDepth 100000 in
theorem laid_eq : (Rows.laid_banyan_sha_roundNumbers : DataW Unit) = .agg KLits := by rfl
theorem of_laid {W : World} (h : laidMetH Tryd.prog [("banyan/sha.roundNumbers", Rows.laid_banyan_sha_roundNumbers)] W) : KT W := by
  rw [MakeChecks.laidMetH_plain _ _ _ (by kernel_rfl)] at h
  obtain ⟨ps, ⟨g0, t0, cs0, f0, p0, q0, hg0, ht0, hv0, hd0, _, _⟩, _, _⟩ := h
  obtain rfl := Option.some.inj (gRounds.symm.trans hg0)
  obtain rfl := Option.some.inj (tRounds.symm.trans ht0)
  have hcell := World.var?_cell hg0 hv0
  obtain ⟨xs, m, rfl, hx, hlen, hn, hel⟩ := DataW.trod_array Tryd.underlying124 hd0
  have c1 : Tryd.prog.cellsOf 35 = 1 := by kernel_rfl
  have hmap : xs.map (fun x => x.fst) = KLits := by
    have := congrArg Prod.fst hx
    rw [laid_eq] at this
    injection this with this
    exact this.symm
  have key : ∀ i, i < 64 → W.cell? ⟨0, i, none⟩ = some (.int .u32 (wv (KS.getD i 0))) := by
    intro i hi
    have h0 := hel i hi
    rw [c1, Nat.mul_one] at h0
    obtain ⟨y, hy⟩ : ∃ y, xs[i]? = some y := ⟨_, List.getElem?_eq_getElem (by omega)⟩
    rw [hy] at h0
    obtain ⟨n, e1, e2, _⟩ := DataW.trod_int Tryd.underlying35 h0
    have e3 : (xs.map (fun x => x.fst))[i]? = some (.lit (.int .u32 n)) := by rw [List.getElem?_map, hy, e2]; rfl
    rw [hmap] at e3
    unfold KLits at e3
    rw [List.getElem?_map, List.getElem?_eq_getElem (by rw [KS_length]; exact hi)] at e3
    simp only [Option.map_some, Option.some.injEq, DataW.lit.injEq, Lit.int.injEq, true_and] at e3
    rw [hcell i]
    have e4 : cs0.toList[i]? = some (.int .u32 n) := by
      have := congrArg (fun l => l[0]?) e1
      simpa using this
    rw [← Array.getElem?_toList, e4, ← e3]
    simp [KS_length, hi]
  exact ⟨Nat.lt_of_le_of_lt (Nat.zero_le _) (block_lt_of_cell (key 0 (by decide))), key⟩

/-- A load of a whole row, under a guard that lets it by. -/
theorem wpList_load_guarded2 {P : Program} {ops : Array Oper} {rest : List Oper} {o : Oper} {a : Act} {w : World} {Q : Exit → Act → World → Prop} (hw : Region.wanted o (yielded ops a.tmps) = true) (ty : TypeId) (x : Operand) (ho : o.op = .load ty x)
    (g : Nat) (hx : a.eval x = .pointer (some ⟨g, 0, none⟩)) (t : TypeId) (cs : Array Value) (fr : Nat × Nat) (d : TypeDesc) (hg : w.heap[g]? = some (.cells cs t fr))
    (hu : P.underlying ty = some d) (hd : (match d with | .struct _ | .array _ _ => true | _ => false) = true) (hi : (P.info? ty).map (·.size) = some cs.size)
    (h : wpList P ops Q rest (a.put o.dst (.agg cs)) w) : wpList P ops Q (o :: rest) a w :=
  wpList_step fun K hK => by
    rw [if_pos hw]
    exact wp_load_row ty x ho g hx t cs fr d hg hu hd hi (hK _ _ h)
section
variable {H : Type} {enc : TypeId × Value → H}
/-- A slice of bytes that came in. -/
theorem open_bs {W : World} {base : Nat} {v : Value} {d : DataW H} {p : List MemPlace} (hok : Value.okWide Tryd.prog W .any base 22 v) (h : ∃ fuel, DataW.trod enc Tryd.prog W 0 (fun _ => true) true fuel 22 v.cells.toList = some (d, p))
    (hw : ∀ elems spare, d = .slice elems spare → (elems.length + spare.length) * Tryd.prog.bytesOf 5 ≤ reachBytes) :
    ∃ a len cap l, v = .slice a len cap ∧ l.length = len ∧ BS W (.slice a len cap) l ∧ len ≤ cap ∧ cap ≤ 140737488351232 := by
  obtain ⟨a, len, cap, rfl⟩ := okWide_slice Tryd.underlying22 hok
  obtain ⟨fuel, hf⟩ := h
  have hby : 1 ≤ Tryd.prog.bytesOf 5 := of_decide_eq_true (by kernel_rfl)
  rcases open_ints Tryd.underlying22 Tryd.underlying5 (by kernel_rfl) hf with ⟨hcs, _⟩ | ⟨x, l, c, zs, hcs, _, hl, hm, hz, hx, hcell, hwz⟩
  · simp [Value.cells] at hcs
    obtain ⟨rfl, rfl, rfl⟩ := hcs
    exact ⟨none, 0, 0, [], rfl, rfl, ⟨none, 0, rfl, by intro z hz; simp at hz, fun _ => rfl, .inl rfl⟩, Nat.le_refl _, by omega⟩
  · simp [Value.cells] at hcs
    obtain ⟨rfl, rfl, rfl⟩ := hcs
    have hr := hw _ _ (Prod.mk.inj hx).1
    have hr2 := Nat.le_trans (Nat.mul_le_mul_left _ hby) hr
    simp only [lits, List.length_map, List.length_take, List.length_drop, reachBytes, Nat.mul_one] at hr2
    have hz' : zs.length = cap := by simpa using hz
    obtain ⟨m, e1, e2, _⟩ := BS.of_row (w := W) (.inr ⟨x, rfl, hl, hm, hz', hcell, hwz⟩)
    exact ⟨some x, len, cap, m, rfl, e1, e2, hl, by omega⟩
/-- Bytes by value. -/
theorem open_row {W : World} {v : Value} {d : DataW H} {p : List MemPlace} {t n : Nat} (ht : Tryd.prog.underlying t = some (.array n 5)) (hct : Tryd.prog.cellsOf t = n) (hn : 2 ≤ n) (h : ∃ fuel, DataW.trod enc Tryd.prog W 0 (fun _ => true) true fuel t v.cells.toList = some (d, p)) :
    ∃ l : List Int, v = .agg (u8s l) ∧ l.length = n ∧ Byt l := by
  obtain ⟨fuel, hf⟩ := h
  obtain ⟨xs, m, rfl, hx, hlen, hxn, hel⟩ := DataW.trod_array ht hf
  have c1 : Tryd.prog.cellsOf 5 = 1 := by kernel_rfl
  rw [hct] at hlen
  have hv : v = .agg v.cells := by
    cases v <;> first | rfl | (simp [Value.cells] at hlen; omega)
  have key : ∀ i, i < n → ∃ k : Int, v.cells.toList[i]? = some (.int .u8 k) ∧ 0 ≤ k ∧ k ≤ 255 := by
    intro i hi
    have h0 := hel i hi
    rw [c1, Nat.mul_one] at h0
    obtain ⟨y, hy⟩ : ∃ y, xs[i]? = some y := ⟨_, List.getElem?_eq_getElem (by omega)⟩
    rw [hy] at h0
    obtain ⟨k, e1, _, e3⟩ := DataW.trod_int Tryd.underlying5 h0
    have e4 := congrArg (fun l => l[0]?) e1
    refine ⟨k, by simpa using e4, ?_⟩
    simp [Lit.wf, IntKind.min, IntKind.max, IntKind.signed, IntKind.bits] at e3
    omega
  refine ⟨v.cells.toList.map intOf, ?_, by rw [List.length_map]; exact hlen, ?_⟩
  · have : u8s (v.cells.toList.map intOf) = v.cells := by
      unfold u8s
      rw [List.map_map]
      apply Array.ext'
      rw [List.toList_toArray]
      apply List.ext_getElem?
      intro i
      rw [List.getElem?_map]
      by_cases hi : i < n
      · obtain ⟨k, hk, _⟩ := key i hi
        rw [hk]; rfl
      · rw [List.getElem?_eq_none (by omega)]; rfl
    rw [this]; exact hv
  · intro z hz
    obtain ⟨u, hu, rfl⟩ := List.mem_map.1 hz
    obtain ⟨i, hi, rfl⟩ := List.getElem_of_mem hu
    obtain ⟨k, hk, h0, h1⟩ := key i (by omega)
    rw [List.getElem?_eq_getElem hi] at hk
    rw [Option.some.inj hk]
    exact ⟨h0, h1⟩
end
end Go.Proofs.YtfgdddejpdjllaaDoor
