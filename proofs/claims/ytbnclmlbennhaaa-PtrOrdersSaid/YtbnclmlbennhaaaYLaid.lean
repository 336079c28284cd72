/-
  What a law's arguments give the walks: bytes, and rows of bytes by value.
-/
import Derived.Test.YtbnclmlbennhaaaYMem
import Derived.ProofKit
import Derived.LaidMore
import Derived.OpenShut
import Derived.Stop.Joined
import Derived.ChangeOld
import Derived.Below
namespace Go.Proofs.Ytbnclmlbennhaaa
set_option maxRecDepth 4000
open Go.ChangeShapes Go.WideShapes Go.ChangeAt Go.RowKit

theorem own : ownKnob Try.prog.godebug = none := by kernel_rfl
theorem laidOut : laidOutB Try.prog = true := by kernel_rfl
section
variable {H : Type} {enc : TypeId × Value → H}
/-- A byte. -/
theorem byte_of {a : Int} (h : (Lit.int .u8 a).wf = true) : ∃ b, a = yv b := by
  refine yv_of a ?_ ?_ <;> simp [Lit.wf, IntKind.min, IntKind.max, IntKind.signed, IntKind.bits] at h <;> omega
/-- Bytes by value. -/
theorem open_yrow {W : World} {v : Value} {d : DataW H} {p : List MemPlace} {t n : Nat} (ht : Try.prog.underlying t = some (.array n 5)) (hct : Try.prog.cellsOf t = n) (hn : 2 ≤ n) (h : ∃ fuel, DataW.trod enc Try.prog W 0 (fun _ => true) true fuel t v.cells.toList = some (d, p)) :
    ∃ l : List (BitVec 8), v = .agg (yvs l) ∧ l.length = n := by
  obtain ⟨fuel, hf⟩ := h
  obtain ⟨xs, m, rfl, hx, hlen, hxn, hel⟩ := DataW.trod_array ht hf
  have c1 : Try.prog.cellsOf 5 = 1 := by kernel_rfl
  rw [hct] at hlen
  have hv : v = .agg v.cells := by
    cases v <;> first | rfl | (simp [Value.cells] at hlen; omega)
  have key : ∀ i, i < n → ∃ b : BitVec 8, v.cells.toList[i]? = some (.int .u8 (yv b)) := by
    intro i hi
    have h0 := hel i hi
    rw [c1, Nat.mul_one] at h0
    obtain ⟨y, hy⟩ : ∃ y, xs[i]? = some y := ⟨_, List.getElem?_eq_getElem (by omega)⟩
    rw [hy] at h0
    obtain ⟨k, e1, _, e3⟩ := DataW.trod_int Try.underlying5 h0
    have e4 := congrArg (fun l => l[0]?) e1
    obtain ⟨b, rfl⟩ := byte_of e3
    exact ⟨b, by simpa using e4⟩
  refine ⟨v.cells.toList.map (fun u => BitVec.ofNat 8 (intOf u).toNat), ?_, by rw [List.length_map]; exact hlen⟩
  have : yvs (v.cells.toList.map (fun u => BitVec.ofNat 8 (intOf u).toNat)) = v.cells := by
    unfold yvs
    rw [List.map_map]
    apply Array.ext'
    rw [List.toList_toArray]
    apply List.ext_getElem?
    intro i
    rw [List.getElem?_map]
    by_cases hi : i < n
    · obtain ⟨b, hb⟩ := key i hi
      rw [hb]
      simp [intOf, yv]
    · rw [List.getElem?_eq_none (by omega)]; rfl
  rw [this]; exact hv
end
end Go.Proofs.Ytbnclmlbennhaaa
