/-
  How plain data that comes in reads: one relation a type, put together piece by piece.
-/
import Derived.Test.YtbnclmlbennhaaaCOpen
import Derived.ChangeMaps5
namespace Go.Proofs.Ytbnclmlbennhaaa
set_option maxRecDepth 4000
open Go.ChangeShapes Go.WideShapes Go.ChangeAt Go.RowKit

theorem opn_weights_all {H : Type} {P : Program} {e : TypeId} : ∀ {l : List (DataW H)} {d : DataW H} {n : Nat}, d ∈ l → n ∈ d.weights P e → n ∈ DataW.weightsAll P e l
  | x :: r, d, n, hd, hn => by
    simp only [DataW.weightsAll, List.mem_append]
    rcases List.mem_cons.1 hd with h | h
    · subst h; exact .inl hn
    · exact .inr (opn_weights_all h hn)
/-- Whatever comes in at type T reads as R tells. -/
def Opn {α : Type} (T : TypeId) (R : World → α → List Value → Prop) : Prop :=
  ∀ (H : Type) (enc : TypeId × Value → H) (W : World) (fuel : Nat) (cs : List Value) (y : DataW H × List MemPlace), DataW.trod enc Try.prog W 0 (fun _ => true) true fuel T cs = some y →
    (∀ n ∈ DataW.weights Try.prog T y.1, n ≤ reachBytes) → ∃ a : α, R W a cs
def RInt (k : IntKind) (lo hi : Int) : World → Int → List Value → Prop := fun _ n cs => cs = [.int k n] ∧ lo ≤ n ∧ n ≤ hi
theorem opn_int {T : TypeId} (k : IntKind) (lo hi : Int) (hu : Try.prog.underlying T = some (.int k)) (hb : ∀ n, (Lit.int k n).wf = true → lo ≤ n ∧ n ≤ hi) : Opn T (RInt k lo hi) := by
  intro H enc W fuel cs y h _
  obtain ⟨n, h1, _, h3⟩ := DataW.trod_int hu h
  exact ⟨n, h1, (hb n h3).1, (hb n h3).2⟩
theorem wf_i64 (n : Int) (h : (Lit.int .i64 n).wf = true) : -9223372036854775808 ≤ n ∧ n ≤ 9223372036854775807 := by simp [Lit.wf, IntKind.min, IntKind.max, IntKind.signed, IntKind.bits] at h; omega
theorem wf_u64 (n : Int) (h : (Lit.int .u64 n).wf = true) : 0 ≤ n ∧ n ≤ 18446744073709551615 := by simp [Lit.wf, IntKind.min, IntKind.max, IntKind.signed, IntKind.bits] at h; omega
theorem wf_u32 (n : Int) (h : (Lit.int .u32 n).wf = true) : 0 ≤ n ∧ n ≤ 4294967295 := by simp [Lit.wf, IntKind.min, IntKind.max, IntKind.signed, IntKind.bits] at h; omega
theorem wf_u16 (n : Int) (h : (Lit.int .u16 n).wf = true) : 0 ≤ n ∧ n ≤ 65535 := by simp [Lit.wf, IntKind.min, IntKind.max, IntKind.signed, IntKind.bits] at h; omega
theorem wf_u8 (n : Int) (h : (Lit.int .u8 n).wf = true) : 0 ≤ n ∧ n ≤ 255 := by simp [Lit.wf, IntKind.min, IntKind.max, IntKind.signed, IntKind.bits] at h; omega
theorem wf_i8 (n : Int) (h : (Lit.int .i8 n).wf = true) : -128 ≤ n ∧ n ≤ 127 := by simp [Lit.wf, IntKind.min, IntKind.max, IntKind.signed, IntKind.bits] at h; omega
def RBool : World → Bool → List Value → Prop := fun _ b cs => cs = [.bool b]
theorem opn_bool {T : TypeId} (hu : Try.prog.underlying T = some .bool) : Opn T RBool := by
  intro H enc W fuel cs y h _
  obtain ⟨b, h1, _⟩ := DataW.trod_bool hu h
  exact ⟨b, h1⟩
def RStr : World → ByteArray → List Value → Prop := fun _ s cs => cs = [.string s] ∧ s.size ≤ 140737488351232
theorem opn_str {T : TypeId} (hu : Try.prog.underlying T = some .string) : Opn T RStr := by
  intro H enc W fuel cs y h hw
  obtain ⟨s, h1, h2, _⟩ := DataW.trod_string hu h
  refine ⟨s, h1, ?_⟩
  have := hw s.data.toList.length (by rw [h2]; simp [DataW.weights])
  unfold reachBytes at this
  exact this
def RRow (n : Nat) : World → List Int → List Value → Prop := fun _ l cs => cs = l.map (Value.int .u8) ∧ l.length = n ∧ Byt l
theorem opn_row {T n : Nat} (ht : Try.prog.underlying T = some (.array n 5)) (hct : Try.prog.cellsOf T = n) : Opn T (RRow n) := by
  intro H enc W fuel cs y hf _
  obtain ⟨xs, m, rfl, hx, hlen, hxn, hel⟩ := DataW.trod_array ht hf
  have c1 : Try.prog.cellsOf 5 = 1 := by kernel_rfl
  rw [hct] at hlen
  have key : ∀ i, i < n → ∃ k : Int, cs[i]? = some (.int .u8 k) ∧ 0 ≤ k ∧ k ≤ 255 := by
    intro i hi
    have h0 := hel i hi
    rw [c1, Nat.mul_one] at h0
    obtain ⟨y, hy⟩ : ∃ y, xs[i]? = some y := ⟨_, List.getElem?_eq_getElem (by omega)⟩
    rw [hy] at h0
    obtain ⟨k, e1, _, e3⟩ := DataW.trod_int Try.underlying5 h0
    have e4 := congrArg (fun l => l[0]?) e1
    refine ⟨k, by simpa using e4, ?_⟩
    exact wf_u8 k e3
  refine ⟨cs.map intOf, ?_, by rw [List.length_map]; exact hlen, ?_⟩
  · rw [List.map_map]
    apply List.ext_getElem?
    intro i
    rw [List.getElem?_map]
    by_cases hi : i < n
    · obtain ⟨k, hk, _⟩ := key i hi
      rw [hk]; rfl
    · rw [List.getElem?_eq_none (by omega)]; rfl
  · intro z hz
    obtain ⟨u, hu, rfl⟩ := List.mem_map.1 hz
    obtain ⟨i, hi, rfl⟩ := List.getElem_of_mem hu
    obtain ⟨k, hk, h0, h1⟩ := key i (by omega)
    rw [List.getElem?_eq_getElem hi] at hk
    rw [Option.some.inj hk]
    exact ⟨h0, h1⟩
def RBytes : World → List Int → List Value → Prop := fun W l cs => ∃ a c, cs = [.slice a l.length c] ∧ l.length ≤ c ∧ c ≤ 140737488351232 ∧ BS W (.slice a l.length c) l
theorem opn_bytes : Opn 28 RBytes := by
  intro H enc W fuel cs y hf hw
  obtain ⟨v, rfl⟩ : ∃ v, cs = [v] := by
    rcases DataW.trod_slice Try.underlying28 hf with ⟨h, _⟩ | ⟨_, _, _, _, _, _, _, h, _⟩
    · exact ⟨_, h⟩
    · exact ⟨_, h⟩
  obtain ⟨a, len, c, l, rfl, rfl, h2, h3, h4⟩ := open_ycell (d := y.1) (p := y.2) hf (fun es sp hd => hw _ (by rw [hd]; simp [DataW.weights, Try.underlying28]))
  exact ⟨l, a, c, rfl, h3, h4, h2⟩
/-- A slice of what reads as R tells. -/
structure SlR {α : Type} (R : World → α → List Value → Prop) (size : Nat) (W : World) (l : List α) (a : Option Addr) (n c : Nat) : Prop where
  len : l.length = n
  cap : n ≤ c
  big : c ≤ 140737488351232
  here : ∀ i (h : i < l.length), ∃ b off cs, a = some ⟨b, off, none⟩ ∧ R W l[i] cs ∧ cs.length = size ∧ W.rangeAt b (off + i * size) cs
def RSl {α : Type} (R : World → α → List Value → Prop) (size : Nat) : World → List α → List Value → Prop := fun W l cs => ∃ a n c, cs = [.slice a n c] ∧ SlR R size W l a n c
theorem opn_slice {α : Type} {T E : TypeId} {R : World → α → List Value → Prop} (size : Nat) (hu : Try.prog.underlying T = some (.slice E)) (hc : Try.prog.cellsOf E = size) (h0 : 1 ≤ size) (hby : 1 ≤ Try.prog.bytesOf E) (op : Opn E R) : Opn T (RSl R size) := by
  intro H enc W fuel cs y hf hw
  rcases DataW.trod_slice hu hf with ⟨rfl, _⟩ | ⟨x, l, c, elems, rest, n, _, rfl, hx, hb, hl, hm, hlen, hel, hsp, hns⟩
  · exact ⟨[], none, 0, 0, rfl, rfl, Nat.le_refl _, by omega, fun i h => by simp at h⟩
  · have hd := congrArg Prod.fst hx
    dsimp only at hd
    have hrest := (hsp rfl).1
    have hbig : c ≤ 140737488351232 := by
      have h1 := hw ((elems.map (·.1)).length + (rest.map (·.1)).length |> (· * Try.prog.bytesOf E)) (by rw [hd]; simp only [DataW.weights, hu]; exact List.mem_cons_self ..)
      have h2 := Nat.le_trans (Nat.mul_le_mul_left _ hby) h1
      simp only [List.length_map, reachBytes, Nat.mul_one] at h2
      omega
    have each : ∀ i : Fin l, ∃ a : α, ∃ b off cs', some x = some ⟨b, off, none⟩ ∧ R W a cs' ∧ cs'.length = size ∧ W.rangeAt b (off + i.val * size) cs' := by
      intro i
      have hie : i.val < elems.length := by omega
      have h1 := hel i.val i.isLt
      rw [hc, List.getElem?_eq_getElem hie, Option.bind_eq_some_iff] at h1
      obtain ⟨cs', h2, h3⟩ := h1
      obtain ⟨_, hln, hcell⟩ := World.cells?_some h2
      have hmem : (elems[i.val]).1 ∈ elems.map (·.1) := List.mem_map.2 ⟨_, List.getElem_mem hie, rfl⟩
      obtain ⟨a, ha⟩ := op H enc W n cs' _ h3 (fun m hm => hw m (by rw [hd]; simp only [DataW.weights, hu]; exact List.mem_cons_of_mem _ (List.mem_append_left _ (opn_weights_all hmem hm))))
      obtain ⟨b, off, spot⟩ := x
      have hspot : spot = none := by
        have h10 := hel 0 (by omega)
        rw [hc, List.getElem?_eq_getElem (by omega), Option.bind_eq_some_iff] at h10
        obtain ⟨cs0, h20, _⟩ := h10
        obtain ⟨_, hln0, hcell0⟩ := World.cells?_some h20
        have q := hcell0 0 (by omega)
        rw [List.getElem?_eq_getElem (by omega)] at q
        simpa [Addr.add] using World.cell?_spot q
      subst hspot
      refine ⟨a, b, off, cs', rfl, ha, hln, ?_⟩
      intro j u hj
      have hjl : j < size := by
        have := (List.getElem?_eq_some_iff.1 hj).1
        omega
      have e := hcell j hjl
      rw [Addr.add_mid, Addr.add_mid] at e
      rw [e, hj]
    obtain ⟨f, hf2⟩ := Classical.axiomOfChoice each
    refine ⟨List.ofFn f, some x, l, c, rfl, by simp, hl, hbig, fun i h => ?_⟩
    have hi : i < l := by simpa using h
    obtain ⟨b, off, cs', h1, h2, h3, h4⟩ := hf2 ⟨i, hi⟩
    refine ⟨b, off, cs', h1, ?_, h3, h4⟩
    rw [List.getElem_ofFn]
    exact h2
/-- At a law's parameter. -/
theorem opn_param {H : Type} {enc : TypeId × Value → H} {α : Type} {T : TypeId} {R : World → α → List Value → Prop} (op : Opn T R) {W : World} {v : Value} {d : DataW H} {p : List MemPlace} {ts : List TypeId} {ds : List (DataW H)} {j : Nat} (h : ∃ fuel, DataW.trod enc Try.prog W 0 (fun _ => true) true fuel T v.cells.toList = some (d, p))
    (hsz : (DataW.weightsEach Try.prog ts ds).all (· ≤ reachBytes) = true) (ht : ts[j]? = some T) (hd : ds[j]? = some d) : ∃ a, R W a v.cells.toList := by
  obtain ⟨fuel, hf⟩ := h
  exact op H enc W fuel _ _ hf (fun n hn => by simpa using List.all_eq_true.1 hsz n (DataW.weights_mem_each ht hd n hn))
theorem one_cell {v u : Value} (h : v.cells.toList = [u]) (hv : ∀ cs, v ≠ .agg cs) : v = u := by
  cases v <;> simp_all [Value.cells]
theorem agg_cells {v : Value} (h : 2 ≤ v.cells.toList.length) : v = .agg v.cells := by
  cases v <;> first | rfl | (simp [Value.cells] at h)
section
variable {H : Type} {enc : TypeId × Value → H} {W : World} {base : Nat} {v : Value} {d : DataW H} {p : List MemPlace} {ts : List TypeId} {ds : List (DataW H)} {j : Nat}
theorem par_slice {α : Type} {T E : TypeId} {R : World → α → List Value → Prop} {size : Nat} (hu : Try.prog.underlying T = some (.slice E)) (op : Opn T (RSl R size)) (hok : Value.okWide Try.prog W .any base T v) (h : ∃ fuel, DataW.trod enc Try.prog W 0 (fun _ => true) true fuel T v.cells.toList = some (d, p))
    (hsz : (DataW.weightsEach Try.prog ts ds).all (· ≤ reachBytes) = true) (ht : ts[j]? = some T) (hd : ds[j]? = some d) : ∃ l a n c, v = .slice a n c ∧ SlR R size W l a n c := by
  obtain ⟨a0, len0, cap0, rfl⟩ := okWide_slice hu hok
  obtain ⟨l, a, n, c, h1, h2⟩ := opn_param op h hsz ht hd
  simp [Value.cells] at h1
  obtain ⟨rfl, rfl, rfl⟩ := h1
  exact ⟨l, _, _, _, rfl, h2⟩
theorem par_bytes (hok : Value.okWide Try.prog W .any base 28 v) (h : ∃ fuel, DataW.trod enc Try.prog W 0 (fun _ => true) true fuel 28 v.cells.toList = some (d, p))
    (hsz : (DataW.weightsEach Try.prog ts ds).all (· ≤ reachBytes) = true) (ht : ts[j]? = some 28) (hd : ds[j]? = some d) : ∃ a len c l, v = .slice a len c ∧ l.length = len ∧ len ≤ c ∧ c ≤ 140737488351232 ∧ BS W (.slice a len c) l := by
  obtain ⟨a0, len0, cap0, rfl⟩ := okWide_slice Try.underlying28 hok
  obtain ⟨l, a, c, h1, h2, h3, h4⟩ := opn_param opn_bytes h hsz ht hd
  simp [Value.cells] at h1
  obtain ⟨rfl, rfl, rfl⟩ := h1
  exact ⟨_, _, _, l, rfl, rfl, h2, h3, h4⟩
theorem par_str {T : TypeId} (hu : Try.prog.underlying T = some .string) (hok : Value.okWide Try.prog W .any base T v) (h : ∃ fuel, DataW.trod enc Try.prog W 0 (fun _ => true) true fuel T v.cells.toList = some (d, p))
    (hsz : (DataW.weightsEach Try.prog ts ds).all (· ≤ reachBytes) = true) (ht : ts[j]? = some T) (hd : ds[j]? = some d) : ∃ s : ByteArray, v = .string s ∧ s.size ≤ 140737488351232 := by
  obtain ⟨s0, rfl⟩ := okWide_string hu hok
  obtain ⟨s, h1, h2⟩ := opn_param (opn_str hu) h hsz ht hd
  simp [Value.cells] at h1
  subst h1
  exact ⟨s0, rfl, h2⟩
theorem par_int {T : TypeId} (k : IntKind) (lo hi : Int) (hu : Try.prog.underlying T = some (.int k)) (hb : ∀ n, (Lit.int k n).wf = true → lo ≤ n ∧ n ≤ hi) (hok : Value.okWide Try.prog W .any base T v) (h : ∃ fuel, DataW.trod enc Try.prog W 0 (fun _ => true) true fuel T v.cells.toList = some (d, p))
    (_hsz : (DataW.weightsEach Try.prog ts ds).all (· ≤ reachBytes) = true) (_ht : ts[j]? = some T) (_hd : ds[j]? = some d) : ∃ n : Int, v = .int k n ∧ lo ≤ n ∧ n ≤ hi := by
  obtain ⟨n, rfl, _, _, hw⟩ := open_int hu hok h
  exact ⟨n, rfl, (hb n hw).1, (hb n hw).2⟩
theorem par_bool {T : TypeId} (hu : Try.prog.underlying T = some .bool) (hok : Value.okWide Try.prog W .any base T v) (h : ∃ fuel, DataW.trod enc Try.prog W 0 (fun _ => true) true fuel T v.cells.toList = some (d, p))
    (_hsz : (DataW.weightsEach Try.prog ts ds).all (· ≤ reachBytes) = true) (_ht : ts[j]? = some T) (_hd : ds[j]? = some d) : ∃ b : Bool, v = .bool b := by
  obtain ⟨b, rfl, _⟩ := open_bool hu hok h
  exact ⟨b, rfl⟩
end
end Go.Proofs.Ytbnclmlbennhaaa
