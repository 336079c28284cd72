/-
  Structs that come in: their fields, opened.
-/
import Derived.Test.YtpmeiadnikenmaaDoorLaid
import Derived.Test.YtpmeiadnikenmaaDoorMac
import Derived.Lib.SmallJoins
import Derived.ChangeMaps5
namespace Go.Proofs.YtpmeiadnikenmaaDoor
open Go.ChangeShapes Go.WideShapes Go.ChangeAt Go.RowKit

section
variable {H : Type} {enc : TypeId × Value → H}
theorem sized_fields {P : Program} {ts : List TypeId} {ds : List (DataW H)} (h : (DataW.weightsEach P ts ds).all (· ≤ reachBytes) = true) {j : Nat} {t : TypeId} {parts : List (DataW H)} {fs : Array Field} (ht : ts[j]? = some t) (hd : ds[j]? = some (.agg parts)) (hu : P.underlying t = some (.struct fs)) :
    (DataW.weightsEach P (fs.toList.map (·.type)) parts).all (· ≤ reachBytes) = true :=
  List.all_eq_true.2 fun n hn => List.all_eq_true.1 h n (DataW.weights_mem_each ht hd n (by simp only [DataW.weights, hu]; exact hn))
theorem open_bs_cell {W : World} {v : Value} {d : DataW H} {p : List MemPlace} {fuel : Nat} (hf : DataW.trod enc Tryd.prog W 0 (fun _ => true) true fuel 22 [v] = some (d, p))
    (hw : ∀ elems spare, d = .slice elems spare → (elems.length + spare.length) * Tryd.prog.bytesOf 5 ≤ reachBytes) :
    ∃ a len cap l, v = .slice a len cap ∧ l.length = len ∧ BS W (.slice a len cap) l ∧ len ≤ cap ∧ cap ≤ 140737488351232 := by
  have hby : 1 ≤ Tryd.prog.bytesOf 5 := of_decide_eq_true (by kernel_rfl)
  rcases open_ints Tryd.underlying22 Tryd.underlying5 (by kernel_rfl) hf with ⟨hcs, _⟩ | ⟨x, l, c, zs, hcs, _, hl, hm, hz, hx, hcell, hwz⟩
  · injection hcs with hcs _
    subst hcs
    exact ⟨none, 0, 0, [], rfl, rfl, ⟨none, 0, rfl, by intro z hz; simp at hz, fun _ => rfl, .inl rfl⟩, Nat.le_refl _, by omega⟩
  · injection hcs with hcs _
    subst hcs
    have hr := hw _ _ (Prod.mk.inj hx).1
    have hr2 := Nat.le_trans (Nat.mul_le_mul_left _ hby) hr
    simp only [lits, List.length_map, List.length_take, List.length_drop, reachBytes, Nat.mul_one] at hr2
    have hz' : zs.length = c := by simpa using hz
    obtain ⟨m, e1, e2, _⟩ := BS.of_row (w := W) (.inr ⟨x, rfl, hl, hm, hz', hcell, hwz⟩)
    exact ⟨some x, l, c, m, rfl, e1, e2, hl, by omega⟩
theorem open_begun {W : World} {base : Nat} {v : Value} {d : DataW H} {p : List MemPlace} {ts : List TypeId} {ds : List (DataW H)} (hok : Value.okWide Tryd.prog W .any base 55 v) (h : DataW.Trod enc Tryd.prog W 0 (fun _ => true) true 55 v d p)
    (hw : (DataW.weightsEach Tryd.prog (55 :: ts) (d :: ds)).all (· ≤ reachBytes) = true) :
    ∃ a len cap l s x y, v = .agg #[.slice a len cap, .string s, .int .u16 x, .int .u16 y] ∧ l.length = len ∧ BS W (.slice a len cap) l ∧ len ≤ cap ∧ cap ≤ 140737488351232 ∧ s.size ≤ 140737488351232 ∧ 0 ≤ x ∧ x ≤ 65535 ∧ 0 ≤ y ∧ y ≤ 65535 := by
  obtain ⟨v0, v1, v2, v3, y0, y1, y2, y3, n, rfl, rfl, _, h0, h1, h2, h3⟩ := Joins.open_agg4 Tryd.underlying55 (by kernel_rfl) (by kernel_rfl) hok h
  have hin := sized_fields hw (j := 0) rfl rfl Tryd.underlying55
  obtain ⟨a, len, cap, l, rfl, e1, e2, e3, e4⟩ := open_bs_cell (d := y0.1) (p := y0.2) h0 (fun elems spare hd => sized_slice hin (j := 0) rfl (by rw [hd]; rfl) Tryd.underlying22)
  obtain ⟨s, hs, hs2, hs3⟩ := DataW.trod_string Tryd.underlying9 h1
  obtain ⟨x, hx, hx2, hx3⟩ := DataW.trod_int Tryd.underlying53 h2
  obtain ⟨y, hy, hy2, hy3⟩ := DataW.trod_int Tryd.underlying53 h3
  injection hs with hs _
  injection hx with hx _
  injection hy with hy _
  subst hs hx hy
  have hsz : s.size ≤ 140737488351232 := by
    have := sized_string hin (j := 1) rfl (by rw [hs2]; rfl)
    exact this
  simp [Lit.wf, IntKind.min, IntKind.max, IntKind.signed, IntKind.bits] at hx3 hy3
  exact ⟨a, len, cap, l, s, x, y, rfl, e1, e2, e3, e4, hsz, by omega, by omega, by omega, by omega⟩
end
end Go.Proofs.YtpmeiadnikenmaaDoor
