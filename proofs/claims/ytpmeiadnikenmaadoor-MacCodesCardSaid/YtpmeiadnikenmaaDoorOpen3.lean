/-
  A key, a message, a code, a bool that come in as one struct, opened.
-/
import Derived.Test.YtpmeiadnikenmaaDoorOpen
namespace Go.Proofs.YtpmeiadnikenmaaDoor
open Go.ChangeShapes Go.WideShapes Go.ChangeAt Go.RowKit

/-- The struct's cells. -/
def codeCells (a0 : Option Addr) (len0 cap0 : Nat) (a1 : Option Addr) (len1 cap1 : Nat) (x : List Int) (o : Bool) : Array Value := (.slice a0 len0 cap0 :: .slice a1 len1 cap1 :: (x.map (Value.int .u8) ++ [.bool o])).toArray
theorem code_range {W : World} {B t : Nat} {a0 : Option Addr} {len0 cap0 : Nat} {a1 : Option Addr} {len1 cap1 : Nat} {x : List Int} {o : Bool} (h : W.heap[B]? = some (.cells (codeCells a0 len0 cap0 a1 len1 cap1 x o) t (0, 0))) : W.rangeAt B 2 (u8s x).toList := by
  intro j v hv
  have hj : j < x.length := by
    have := (List.getElem?_eq_some_iff.1 hv).1
    rwa [Array.length_toList, u8s_size] at this
  rw [cell_of_row _ _ _ _ _ _ h]
  unfold codeCells
  rw [List.getElem?_toArray, show 2 + j = j + 1 + 1 by omega, List.getElem?_cons_succ, List.getElem?_cons_succ, List.getElem?_append_left (by simpa using hj)]
  simpa [u8s] using hv
theorem code_own {W : World} {B t : Nat} {a0 : Option Addr} {len0 cap0 : Nat} {a1 : Option Addr} {len1 cap1 : Nat} {x : List Int} {o : Bool} (h : W.heap[B]? = some (.cells (codeCells a0 len0 cap0 a1 len1 cap1 x o) t (0, 0))) (hx : x.length = 32) : W.cell? ⟨B, 34, none⟩ = some (.bool o) := by
  rw [cell_of_row _ _ _ _ _ _ h]
  unfold codeCells
  rw [List.getElem?_toArray, List.getElem?_cons_succ, List.getElem?_cons_succ, List.getElem?_append_right (by simp [hx])]
  simp [hx]
section
variable {H : Type} {enc : TypeId × Value → H}
theorem open_code {W : World} {base : Nat} {v : Value} {d : DataW H} {p : List MemPlace} {ts : List TypeId} {ds : List (DataW H)} (hok : Value.okWide Tryd.prog W .any base 44 v) (h : DataW.Trod enc Tryd.prog W 0 (fun _ => true) true 44 v d p)
    (hw : (DataW.weightsEach Tryd.prog (44 :: ts) (d :: ds)).all (· ≤ reachBytes) = true) :
    ∃ a0 len0 cap0 l0 a1 len1 cap1 l1 x o, v = .agg (codeCells a0 len0 cap0 a1 len1 cap1 x o) ∧ l0.length = len0 ∧ BS W (.slice a0 len0 cap0) l0 ∧ len0 ≤ cap0 ∧ cap0 ≤ 140737488351232 ∧ l1.length = len1 ∧ BS W (.slice a1 len1 cap1) l1 ∧ len1 ≤ cap1 ∧ cap1 ≤ 140737488351232 ∧ x.length = 32 ∧ Byt x := by
  obtain ⟨cs, rfl, hsz⟩ := okWide_struct Tryd.underlying44 hok
  obtain ⟨fuel, hf⟩ := h
  obtain ⟨xs, n, _, hd, hl, hlen, hfs⟩ := DataW.trod_struct Tryd.underlying44 hf
  obtain ⟨rfl, _⟩ := Prod.mk.inj hd
  have hlen4 : xs.length = 4 := hlen
  obtain ⟨y0, y1, y2, y3, rfl⟩ : ∃ y0 y1 y2 y3, xs = [y0, y1, y2, y3] := by
    match xs, hlen4 with
    | [a, b, c, e], _ => exact ⟨a, b, c, e, rfl⟩
  have hin := sized_fields hw (j := 0) rfl rfl Tryd.underlying44
  have c22 : Tryd.prog.cellsOf 22 = 1 := by kernel_rfl
  have c24 : Tryd.prog.cellsOf 24 = 32 := by kernel_rfl
  have c4 : Tryd.prog.cellsOf 4 = 1 := by kernel_rfl
  have hsz35 : cs.toList.length = 35 := by rw [Array.length_toList, hsz]; kernel_rfl
  have h0 := hfs 0 _ rfl
  have h1 := hfs 1 _ rfl
  have h2 := hfs 2 _ rfl
  have h3 := hfs 3 _ rfl
  clear hfs
  simp [Value.cells, c22, c24, c4] at h0 h1 h2 h3
  generalize hL : cs.toList = L at *
  obtain ⟨v0, v1, T, rfl, hT⟩ : ∃ v0 v1 T, L = v0 :: v1 :: T ∧ T.length = 33 := by
    match L, hsz35 with
    | a :: b :: T, h => exact ⟨a, b, T, rfl, by simpa using h⟩
  have h0 : DataW.trod enc Tryd.prog W 0 (fun _ => true) true n 22 [v0] = some y0 := h0
  have h1 : DataW.trod enc Tryd.prog W 0 (fun _ => true) true n 22 [v1] = some y1 := h1
  have h2 : DataW.trod enc Tryd.prog W 0 (fun _ => true) true n 24 (T.take 32) = some y2 := h2
  have h3 : DataW.trod enc Tryd.prog W 0 (fun _ => true) true n 4 ((T.drop 32).take 1) = some y3 := h3
  obtain ⟨b, hb⟩ : ∃ b, T.drop 32 = [b] := by
    have hl1 : (T.drop 32).length = 1 := by rw [List.length_drop, hT]
    match T.drop 32, hl1 with
    | [b], _ => exact ⟨b, rfl⟩
  rw [hb] at h3
  obtain ⟨a0, len0, cap0, l0, rfl, e1, e2, e3, e4⟩ := open_bs_cell (d := y0.1) (p := y0.2) h0 (fun elems spare hd => sized_slice hin (j := 0) rfl (by rw [← hd]; rfl) Tryd.underlying22)
  obtain ⟨a1, len1, cap1, l1, rfl, f1, f2, f3, f4⟩ := open_bs_cell (d := y1.1) (p := y1.2) h1 (fun elems spare hd => sized_slice hin (j := 1) rfl (by rw [← hd]; rfl) Tryd.underlying22)
  obtain ⟨x, hx, hxl, hxy⟩ := open_row (v := .agg (T.take 32).toArray) (d := y2.1) (p := y2.2) (t := 24) (n := 32) Tryd.underlying24 (by kernel_rfl) (by decide) ⟨n, by simpa [Value.cells] using h2⟩
  obtain ⟨o, ho, _⟩ := DataW.trod_bool Tryd.underlying4 h3
  obtain rfl : b = .bool o := by
    have h : (T.drop 32).take 1 = [.bool o] := ho
    rw [hb] at h
    simpa using h
  have hM : T.take 32 = x.map (Value.int .u8) := by
    injection hx with hx
    have := congrArg Array.toList hx
    simpa [u8s] using this
  have hT2 : T = x.map (Value.int .u8) ++ [.bool o] := by rw [← hM, ← hb, List.take_append_drop]
  refine ⟨a0, len0, cap0, l0, a1, len1, cap1, l1, x, o, ?_, e1, e2, e3, e4, f1, f2, f3, f4, hxl, hxy⟩
  congr 1
  apply Array.ext'
  rw [hL, hT2]
  rfl
end
end Go.Proofs.YtpmeiadnikenmaaDoor
