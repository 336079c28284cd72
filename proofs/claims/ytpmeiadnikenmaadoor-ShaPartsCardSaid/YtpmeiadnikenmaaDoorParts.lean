/-
  A slice of slices of bytes that comes in, opened.
-/
import Derived.Test.YtpmeiadnikenmaaDoorOpen
namespace Go.Proofs.YtpmeiadnikenmaaDoor
open Go.ChangeShapes Go.WideShapes Go.ChangeAt Go.RowKit

section
variable {H : Type} {enc : TypeId × Value → H}
theorem weights_all {P : Program} {e : TypeId} : ∀ {l : List (DataW H)} {d : DataW H} {n : Nat}, d ∈ l → n ∈ d.weights P e → n ∈ DataW.weightsAll P e l
  | x :: r, d, n, hd, hn => by
    simp only [DataW.weightsAll, List.mem_append]
    rcases List.mem_cons.1 hd with h | h
    · subst h; exact .inl hn
    · exact .inr (weights_all h hn)
theorem open_parts {W : World} {base : Nat} {v : Value} {d : DataW H} {p : List MemPlace} {ts : List TypeId} {ds : List (DataW H)} (hok : Value.okWide Tryd.prog W .any base 29 v) (h : DataW.Trod enc Tryd.prog W 0 (fun _ => true) true 29 v d p)
    (hw : (DataW.weightsEach Tryd.prog (29 :: ts) (d :: ds)).all (· ≤ reachBytes) = true) :
    ∃ (a : Option Addr) (len cap : Nat) (vs : Nat → Value) (ls : List (List Int)), v = .slice a len cap ∧ ls.length = len ∧ len ≤ 140737488351232 ∧
      (len = 0 ∨ ∃ P off, a = some ⟨P, off, none⟩ ∧ ∀ i, i < len → W.cell? ⟨P, off + i, none⟩ = some (vs i)) ∧
      ∀ i, i < len → ∃ ai ci, vs i = .slice ai (ls.getD i []).length ci ∧ BS W (.slice ai (ls.getD i []).length ci) (ls.getD i []) ∧ (ls.getD i []).length ≤ ci ∧ ci ≤ 140737488351232 := by
  obtain ⟨a, len, cap, rfl⟩ := okWide_slice Tryd.underlying29 hok
  obtain ⟨fuel, hf⟩ := h
  have c1 : Tryd.prog.cellsOf 22 = 1 := by kernel_rfl
  have hby : 1 ≤ Tryd.prog.bytesOf 22 := of_decide_eq_true (by kernel_rfl)
  rcases DataW.trod_slice Tryd.underlying29 hf with ⟨hcs, _⟩ | ⟨x, l, c, elems, rest, n, _, hcs, hx, hb, hl, hm, hlen, hel, hsp, hns⟩
  · simp [Value.cells] at hcs
    obtain ⟨rfl, rfl, rfl⟩ := hcs
    exact ⟨none, 0, 0, fun _ => undef, [], rfl, rfl, by omega, .inl rfl, fun i hi => absurd hi (Nat.not_lt_zero i)⟩
  · simp [Value.cells] at hcs
    obtain ⟨rfl, rfl, rfl⟩ := hcs
    have hd := (Prod.mk.inj hx).1
    subst hd
    have hr := sized_slice hw (j := 0) rfl rfl Tryd.underlying29
    simp only [List.length_map, reachBytes] at hr
    have hr2 := Nat.le_trans (Nat.mul_le_mul_left _ hby) hr
    have hlr : len ≤ 140737488351232 := by omega
    have each : ∀ i : Nat, ∃ y : Value × List Int, i < len → W.cell? (x.add i) = some y.1 ∧ ∃ ai ci, y.1 = .slice ai y.2.length ci ∧ BS W (.slice ai y.2.length ci) y.2 ∧ y.2.length ≤ ci ∧ ci ≤ 140737488351232 := by
      intro i
      by_cases hi : i < len
      · have h1 := hel i hi
        have hie : i < elems.length := by omega
        rw [c1, Nat.mul_one, List.getElem?_eq_getElem hie, Option.bind_eq_some_iff] at h1
        obtain ⟨cs', h2, h3⟩ := h1
        obtain ⟨v0, rfl⟩ : ∃ v0, cs' = [v0] := by
          rcases DataW.trod_slice Tryd.underlying22 h3 with ⟨h, _⟩ | ⟨_, _, _, _, _, _, _, h, _⟩
          · exact ⟨_, h⟩
          · exact ⟨_, h⟩
        obtain ⟨ai, li, ci, l', hv0, e1, e2, e3, e4⟩ := open_bs_cell (d := (elems[i]).1) (p := (elems[i]).2) h3 (fun es sp hd => by
          have hmem : (elems[i]).1 ∈ elems.map (fun y => y.1) := List.mem_map.2 ⟨_, List.getElem_mem hie, rfl⟩
          have hn : (es.length + sp.length) * Tryd.prog.bytesOf 5 ∈ DataW.weights Tryd.prog 22 (elems[i]).1 := by
            rw [hd]
            simp [DataW.weights, Tryd.underlying22]
          have hin := weights_all hmem hn
          have := List.all_eq_true.1 hw _ (DataW.weights_mem_each (j := 0) rfl rfl _ (by simp only [DataW.weights, Tryd.underlying29]; exact List.mem_cons_of_mem _ (List.mem_append_left _ hin)))
          simpa using this)
        subst e1
        exact ⟨(v0, l'), fun _ => ⟨cell_of_cells?_one h2, ai, ci, hv0, e2, e3, e4⟩⟩
      · exact ⟨(undef, []), fun h => absurd h hi⟩
    obtain ⟨f, hf2⟩ := Classical.axiomOfChoice each
    refine ⟨some x, len, cap, fun i => (f i).1, (List.range len).map fun i => (f i).2, rfl, by simp, hlr, ?_, fun i hi => ?_⟩
    · by_cases h0 : len = 0
      · exact .inl h0
      · right
        obtain ⟨b, off, spot⟩ := x
        have hspot : spot = none := by simpa [Addr.add] using World.cell?_spot (hf2 0 (by omega)).1
        subst hspot
        refine ⟨b, off, rfl, fun i hi => ?_⟩
        have := (hf2 i hi).1
        rwa [Addr.add_mid] at this
    · have e : ((List.range len).map fun i => (f i).2).getD i [] = (f i).2 := by simp [hi]
      rw [e]
      exact (hf2 i hi).2
end
end Go.Proofs.YtpmeiadnikenmaaDoor
