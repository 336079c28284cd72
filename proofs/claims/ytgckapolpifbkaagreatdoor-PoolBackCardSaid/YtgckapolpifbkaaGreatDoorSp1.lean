import Derived.Test.YtgckapolpifbkaaGreatDoorSp0
import Derived.Test.YtgckapolpifbkaaGreatDoorBy
import Derived.Maps.OwnSet
import Derived.Maps.AppendAt
import Derived.Maps.RangeWalk
import Derived.Deep.QuietTactic
namespace Go.Proofs.YtgckapolpifbkaaGreatDoor
set_option maxRecDepth 4000
set_option linter.unusedVariables false
open Go.ChangeShapes Go.WideShapes Go.ChangeAt Go.RowKit
theorem us_slr {w : World} {x : List Int} {a : Option Addr} {n c : Nat} (h : SlR (RInt .u32 0 4294967295) 1 w x a n c) : US w a n c (x.map Int.toNat) := by
  have hs : ∀ (i : Nat) (hi : i < x.length), 0 ≤ x[i] ∧ x[i] ≤ 4294967295 := fun i hi => by
    obtain ⟨b, off, cs, _, h2, _⟩ := h.here i hi
    exact h2.2
  refine ⟨by rw [List.length_map]; exact h.len, fun y hy => ?_, ?_⟩
  · obtain ⟨z, hz, rfl⟩ := List.mem_map.1 hy
    obtain ⟨i, hi, rfl⟩ := List.getElem_of_mem hz
    have := hs i hi
    omega
  · by_cases h0 : n = 0
    · left
      have := h.len
      rw [List.map_eq_nil_iff]
      exact List.eq_nil_of_length_eq_zero (by omega)
    · right
      obtain ⟨b, off, cs, h1, _⟩ := h.here 0 (by rw [h.len]; omega)
      refine ⟨b, off, h1, fun i hi => ?_⟩
      have hix : i < x.length := by rw [h.len]; exact hi
      obtain ⟨b', off', cs', h1', h2', _, h5'⟩ := h.here i hix
      rw [h1] at h1'
      injection h1' with e
      injection e with e1 e2
      subst e1 e2
      have hc := h5' 0 (.int .u32 x[i]) (by rw [h2'.1]; rfl)
      rw [Nat.mul_one, Nat.add_zero] at hc
      rw [hc]
      have e : (x.map Int.toNat).getD i 0 = x[i].toNat := by simp [List.getD, hix]
      rw [e]
      have := hs i hix
      congr 2
      omega
theorem opn_u32 : Opn 41 (RInt .u32 0 4294967295) := opn_int .u32 _ _ Tryz.underlying41 wf_u32
theorem opn_u32s : Opn 40 (RSl (RInt .u32 0 4294967295) 1) := opn_slice 1 Tryz.underlying40 (by kernel_rfl) (by decide) (of_decide_eq_true (by kernel_rfl)) opn_u32
theorem par_u32s {H : Type} {enc : TypeId × Value → H} {W : World} {base : Nat} {v : Value} {d : DataW H} {p : List MemPlace} {ts : List TypeId} {ds : List (DataW H)} {j : Nat} (hok : Value.okWide Tryz.prog W .any base 40 v) (h : ∃ fuel, DataW.trod enc Tryz.prog W 0 (fun _ => true) true fuel 40 v.cells.toList = some (d, p))
    (hsz : (DataW.weightsEach Tryz.prog ts ds).all (· ≤ reachBytes) = true) (ht : ts[j]? = some 40) (hd : ds[j]? = some d) :
    ∃ (l : List Nat) (a : Option Addr) (n c : Nat), v = .slice a n c ∧ US W a n c l ∧ n ≤ c ∧ n ≤ 140737488351232 := by
  obtain ⟨x, a, n, c, rfl, hs⟩ := par_slice Tryz.underlying40 opn_u32s hok h hsz ht hd
  exact ⟨_, a, n, c, rfl, us_slr hs, hs.cap, by have := hs.big; have := hs.cap; omega⟩
structure TU (w : World) (B : Nat) (a : Option Addr) (n c : Nat) (l : List Nat) : Prop where
  us : US w a n c l
  new : ∀ b off, a = some ⟨b, off, none⟩ → B ≤ b
theorem TU.below {w w' : World} {B : Nat} {a : Option Addr} {n c : Nat} {l : List Nat} (h : TU w B a n c l) (q : Below w.heap.size w w') : TU w' B a n c l := ⟨h.us.below q, h.new⟩
theorem TU.touch {w w' : World} {B : Nat} {a : Option Addr} {n c : Nat} {l m : List Nat} (h : TU w B a n c l) (q : Touch m w w') (hm : ∀ k ∈ m, k < B) : TU w' B a n c l :=
  ⟨h.us.touch q (fun b off ha hb => by have := hm b hb; have := h.new b off ha; omega), h.new⟩
theorem cnt_drop {F : Nat → Bool} {a n : Nat} (h1 : a < n) (h : F a = true) : cnt (updF F a false) n + 1 = cnt F n := by
  have := cnt_upd F a false n
  rw [if_pos ⟨h1, h⟩, if_neg (by simp)] at this
  omega
end Go.Proofs.YtgckapolpifbkaaGreatDoor
namespace Go.Proofs.YtgckapolpifbkaaGreatDoor
set_option maxRecDepth 4000
set_option linter.unusedVariables false
open Go.ChangeShapes Go.WideShapes Go.ChangeAt Go.RowKit
theorem run_append_US (w : World) (base n m c : Nat) (v : Value) (a : Option Addr) (xs l : List Nat) (hown : w.ownsRow base 41 1 v n (u32n xs)) (hU : US w a m c l) (hc : a = none → c = 0) (h63 : n + m ≤ 1000000000) (hbase : base ≤ w.heap.size) :
    ∃ v' w', (Builtin.append_ #[40, 40] 40 #[v, .slice a m c]).run Tryz.prog w = .ok v' w' ∧ w'.ownsRow base 41 1 v' (n + m) (u32n (xs ++ l)) ∧ w.grownBy w' v.ownBlock ∧ (v'.ownBlock = v.ownBlock ∨ v'.ownBlock = some w.heap.size) := by
  obtain ⟨i0, hi, hz0, hz1, hz2⟩ := info_parts info_u32n
  cases a with
  | none =>
    obtain rfl := hc rfl
    have hl : l = [] := by
      rcases hU.cells with h | ⟨b, off, h, _⟩
      · exact h
      · cases h
    subst hl
    have hm : m = 0 := by have := hU.len; simpa using this.symm
    subst hm
    exact ⟨v, w, run_append_owned_none (P := Tryz.prog) (w := w) base _ _ _ i0 1 Tryz.underlying40 hi v n _ hown, by simpa using hown, ⟨rfl, rfl, rfl, Nat.le_refl _, fun _ _ _ => rfl⟩, .inl rfl⟩
  | some ad =>
    have hlen := hU.len
    obtain ⟨v', w', h1, h2, h3, _, h5⟩ := run_append_own_at (P := Tryz.prog) w base 40 40 41 i0 _ 1 4 Tryz.underlying40 hi hz0 hz1 hz2 rfl (by decide) v n _ hown ad m c (u32n l) (by rw [u32n_len]; omega) (by
      intro j u hj
      have hjl : j < l.length := by
        have := (List.getElem?_eq_some_iff.1 hj).1
        rwa [u32n_len] at this
      rcases hU.cells with h0 | ⟨b, off, he, hcc⟩
      · rw [h0] at hjl; simp at hjl
      · obtain rfl := Option.some.inj he
        have e2 : (⟨b, off, none⟩ : Addr).add j = ⟨b, off + j, none⟩ := by unfold Addr.add; split <;> simp_all
        rw [e2, hcc j (by omega)]
        rw [u32n_at _ _ hjl] at hj
        exact hj) (by
      intro u hu
      simp only [u32n, List.mem_map] at hu
      obtain ⟨z, _, rfl⟩ := hu
      rfl) (by unfold maxLen; omega) (by omega) hbase
    exact ⟨v', w', h1, by rw [u32n_append]; exact h2, h3, h5⟩
end Go.Proofs.YtgckapolpifbkaaGreatDoor
namespace Go.Proofs.YtgckapolpifbkaaGreatDoor
set_option maxRecDepth 4000
set_option linter.unusedVariables false
open Go.ChangeShapes Go.WideShapes Go.ChangeAt Go.RowKit
def ArrU (w : World) (g : Nat) (l : List Nat) : Prop := w.heap[g]? = some (.cells (u32n l).toArray 41 (0, 0))
theorem ArrU.lt {w : World} {g : Nat} {l : List Nat} (h : ArrU w g l) : g < w.heap.size := (Array.getElem?_eq_some_iff.1 h).1
theorem ArrU.cell {w : World} {g i : Nat} {l : List Nat} (h : ArrU w g l) (hi : i < l.length) : w.cell? ⟨g, i, none⟩ = some (.int .u32 (l.getD i 0 : Nat)) := by
  rw [cell_of_row w g i _ _ _ h, List.getElem?_toArray, u32n_at _ _ hi]
theorem ArrU.free {w : World} {g : Nat} {l : List Nat} (h : ArrU w g l) (i : Nat) : w.frozen? ⟨g, i, none⟩ = false := frozen_of_row w g i _ _ h
theorem ArrU.set {w : World} {g : Nat} {l : List Nat} (h : ArrU w g l) (i y : Nat) : ArrU (w.setCell ⟨g, i, none⟩ (.int .u32 (y : Int))) g (l.set i y) := by
  unfold ArrU
  rw [heap_setCell_same w g i _ _ _ h]
  congr 2
  rw [List.setIfInBounds_toArray, u32n, u32n, List.map_set]
theorem ArrU.touch {w w' : World} {g : Nat} {l : List Nat} {m : List Nat} (h : ArrU w g l) (q : Touch m w w') (hg : g ∉ m) : ArrU w' g l := (q.block g h.lt hg).trans h
theorem ArrU.below {w w' : World} {g : Nat} {l : List Nat} (h : ArrU w g l) (q : Below w.heap.size w w') : ArrU w' g l := (q.block g h.lt).trans h
theorem ArrU.us {w : World} {g n c : Nat} {l : List Nat} (h : ArrU w g l) (hl : l.length = n) (hs : ∀ x ∈ l, x < 4294967296) : US w (some ⟨g, 0, none⟩) n c l :=
  ⟨hl, hs, .inr ⟨g, 0, rfl, fun i hi => by rw [Nat.zero_add]; exact h.cell (by omega)⟩⟩
def RU (w : World) (g k : Nat) : Prop := ∃ cur : Array Value, w.heap[g]? = some (.cells cur 41 (0, 0)) ∧ ∀ j, j < k → ∃ x : Nat, x < 4294967296 ∧ cur[j]? = some (.int .u32 (x : Int))
theorem RU.lt {w : World} {g k : Nat} (h : RU w g k) : g < w.heap.size := by obtain ⟨_, h, _⟩ := h; exact (Array.getElem?_eq_some_iff.1 h).1
theorem RU.cell {w : World} {g k j : Nat} (h : RU w g k) (hj : j < k) : ∃ x : Nat, x < 4294967296 ∧ w.cell? ⟨g, j, none⟩ = some (.int .u32 (x : Int)) := by
  obtain ⟨cur, h1, h2⟩ := h
  obtain ⟨x, hx, hc⟩ := h2 j hj
  exact ⟨x, hx, by rw [cell_of_row w g j _ _ _ h1]; exact hc⟩
theorem RU.free {w : World} {g k : Nat} (h : RU w g k) (j : Nat) : w.frozen? ⟨g, j, none⟩ = false := by
  obtain ⟨cur, h1, _⟩ := h; exact frozen_of_row w g j _ _ h1
theorem RU.set {w : World} {g k : Nat} (h : RU w g k) (i y : Nat) (hy : y < 4294967296) : RU (w.setCell ⟨g, i, none⟩ (.int .u32 (y : Int))) g k := by
  obtain ⟨cur, h1, h2⟩ := h
  refine ⟨_, heap_setCell_same w g i _ _ _ h1, fun j hj => ?_⟩
  obtain ⟨x, hx, hc⟩ := h2 j hj
  rw [Array.getElem?_setIfInBounds]
  by_cases e : i = j
  · subst e
    rw [if_pos rfl, if_pos (Array.getElem?_eq_some_iff.1 hc).1]
    exact ⟨y, hy, rfl⟩
  · rw [if_neg e]; exact ⟨x, hx, hc⟩
end Go.Proofs.YtgckapolpifbkaaGreatDoor
namespace Go.Proofs.YtgckapolpifbkaaGreatDoor
set_option maxRecDepth 4000
set_option linter.unusedVariables false
open Go.ChangeShapes Go.WideShapes Go.ChangeAt Go.RowKit
open Go.Maps (Keyed)
def ku (a : Nat) : Lit := .int .u32 (a : Int)
theorem ku_ne {a b : Nat} (h : a ≠ b) : ku a ≠ ku b := fun e => by unfold ku at e; injection e with _ e; omega
theorem keyof_u32 (a : Nat) (h : a < 4294967296) : keyOf Tryz.prog 41 (.int .u32 (a : Int)) = some (ku a) := Maps.keyOf_int_mk Tryz.underlying41 (by
  simp [Lit.wf, IntKind.min, IntKind.max, IntKind.bits, IntKind.signed]; omega)
theorem bool_inv11 {v : Value} {x : Bool} {ps : List MemPlace} (h : plainElem (H := Unit) Tryz.prog 4 v = some (.lit (.bool x), ps)) : v = .bool x := by
  unfold plainElem at h
  rw [Tryz.underlying4] at h
  cases v <;> simp at h ⊢
  exact h.1
structure UM (w : World) (b c d : Nat) (L : List Nat) : Prop where
  map : ∃ D, w.ownsMap Tryz.prog 41 (plainElem (H := Unit) Tryz.prog 4) b c D ∧ Maps.IsMap D ∧ Maps.Tidy D ∧ Maps.size D = d ∧ ∀ a : Nat, Maps.has D (ku a) = decide (a ∈ L) ∧ D.atKey (ku a) (.lit (.bool false)) = .lit (.bool (decide (a ∈ L)))
theorem UM.lt {w : World} {b c d : Nat} {L : List Nat} (h : UM w b c d L) : b < w.heap.size := by obtain ⟨D, h1, _⟩ := h.map; exact h1.lt
theorem UM.move {w w' : World} {b c d : Nat} {L : List Nat} (h : UM w b c d L) (e : w'.heap[b]? = w.heap[b]?) : UM w' b c d L := by
  obtain ⟨D, ⟨es, clock, hb, F, hs, hD⟩, h2⟩ := h.map
  exact ⟨D, ⟨es, clock, e.trans hb, F, hs, hD⟩, h2⟩
theorem UM.below {w w' : World} {b c d : Nat} {L : List Nat} (h : UM w b c d L) (q : Below w.heap.size w w') : UM w' b c d L := h.move (q.block b h.lt)
theorem UM.touch {w w' : World} {b c d : Nat} {L : List Nat} {m : List Nat} (h : UM w b c d L) (q : Touch m w w') (hb : b ∉ m) : UM w' b c d L := h.move (q.block b h.lt hb)
theorem um_made (w : World) : UM (w.alloc (.map #[] 0)) w.heap.size 0 0 [] :=
  ⟨_, World.ownsMap_made w _ _ _, Maps.isMap_empty, Maps.tidy_empty, rfl, fun a => ⟨rfl, rfl⟩⟩
theorem um_look {w : World} {b c d : Nat} {L : List Nat} (h : UM w b c d L) (a : Nat) (ha : a < 4294967296) :
    (Instr.lookup 86 (.map (some b)) (.int .u32 (a : Int)) false).run Tryz.prog w = .ok (.bool (decide (a ∈ L))) w := by
  obtain ⟨D, h1, _, _, _, h5⟩ := h.map
  obtain ⟨v, ps, hr, hv⟩ := h1.lookup (t := 86) (e := 4) (Maps.int_keyed Tryz.underlying41) Tryz.underlying86 (z := .bool false) (by kernel_rfl) (plainElem_bool (H := Unit) Tryz.underlying4 false) (keyof_u32 a ha)
  rw [(h5 a).2] at hv
  rw [hr, bool_inv11 hv]
theorem um_len {w : World} {b c d : Nat} {L : List Nat} (h : UM w b c d L) (ty : TypeId) : (Builtin.len_ #[86] ty #[.map (some b)]).run Tryz.prog w = .ok (.int .i64 (d : Int)) w := by
  obtain ⟨D, h1, _, _, h4, _⟩ := h.map
  rw [World.ownsMap.len h1 Tryz.underlying86 ty, h4]
theorem um_put {w : World} {b c d : Nat} {L : List Nat} (h : UM w b c d L) (hc : c < 1000000) (a : Nat) (ha : a < 4294967296) :
    ∃ w', (Instr.mapUpdate 86 (.map (some b)) (.int .u32 (a : Int)) (.bool true)).run Tryz.prog w = .ok () w' ∧ UM w' b (c + 1) (if a ∈ L then d else d + 1) (L ++ [a]) ∧ Touch [b] w w' := by
  obtain ⟨D, h1, h2, h3, h4, h5⟩ := h.map
  obtain ⟨w', hr, ho, hg⟩ := h1.update (t := 86) (e := 4) (Maps.int_keyed Tryz.underlying41) Tryz.underlying86 (by unfold maxLen; omega) (keyof_u32 a ha) (plainElem_bool (H := Unit) Tryz.underlying4 true)
  refine ⟨w', hr, ⟨_, ho, h2.put _ _, h3.put (by trivial) _, ?_, fun x => ?_⟩, ⟨hg.os, hg.tape, hg.output, hg.size, fun k h1 h2 => hg.block k h1 (by simpa using h2)⟩⟩
  · rw [Maps.size_put h3, (h5 a).1, h4]
    by_cases e : a ∈ L <;> simp [e]
  · by_cases e : x = a
    · subst e
      rw [Maps.has_put_same h2 (by trivial), Maps.atKey_put_same h2 (by trivial)]
      simp
    · rw [Maps.has_put_other (ku_ne e), Maps.atKey_put_other (ku_ne e), (h5 x).1, (h5 x).2]
      simp [e]
theorem cnt_allF (n : Nat) (h : 2 ≤ n) : cnt (allF n) n = n - 2 := by
  have h1 := tkn_count (allF n) (fun x hx => by unfold allF at hx; simp at hx; exact hx.1) n h
  have h2 : tkn (allF n) n = [] := by
    apply List.eq_nil_iff_forall_not_mem.2
    intro x hx
    obtain ⟨q1, q2, q3⟩ := (tkn_mem _ _ _).1 hx
    unfold allF at q3
    simp [q1, q2] at q3
  rw [h2] at h1
  simpa using h1
theorem minF_add (n : Nat) (l : List Nat) (x : Nat) : minF n (l ++ [x]) = updF (minF n l) x false := by
  funext y
  unfold minF updF
  by_cases e : y = x
  · subst e; simp
  · simp [e]
theorem cnt_min (n : Nat) (l : List Nat) (x d : Nat) (h0 : 2 ≤ x) (h1 : x < n) (h : d + cnt (minF n l) n = n - 2) : (if x ∈ l then d else d + 1) + cnt (minF n (l ++ [x])) n = n - 2 := by
  rw [minF_add]
  by_cases e : x ∈ l
  · rw [if_pos e, updF_self _ _ _ (show minF n l x = false by unfold minF; simp [e])]; exact h
  · rw [if_neg e]
    have := cnt_drop (F := minF n l) h1 (show minF n l x = true by unfold minF allF; simp [e, h0, h1])
    omega
theorem cnt_pos {F : Nat → Bool} {n a : Nat} (h1 : a < n) (h : F a = true) : 0 < cnt F n := by
  have := cnt_drop h1 h; omega
end Go.Proofs.YtgckapolpifbkaaGreatDoor
namespace Go.Proofs.YtgckapolpifbkaaGreatDoor
set_option maxRecDepth 4000
set_option linter.unusedVariables false
open Go.ChangeShapes Go.WideShapes Go.ChangeAt Go.RowKit
open Go.Maps (Keyed)
structure UH (w : World) (a : Option Addr) (n c : Nat) (l : List Nat) : Prop where
  len : l.length = n
  small : ∀ x ∈ l, x < 65536
  cells : l = [] ∨ ∃ b off, a = some ⟨b, off, none⟩ ∧ ∀ i, i < n → w.cell? ⟨b, off + i, none⟩ = some (.int .u16 (l.getD i 0 : Nat))
theorem UH.below {w w' : World} {a : Option Addr} {n c : Nat} {l : List Nat} (h : UH w a n c l) (q : Below w.heap.size w w') : UH w' a n c l :=
  ⟨h.len, h.small, h.cells.imp id fun ⟨b, off, ha, hc⟩ => ⟨b, off, ha, fun i hi => (q.cell (block_lt_of_cell (hc i hi))).trans (hc i hi)⟩⟩
theorem UH.at {w : World} {a : Option Addr} {n c i : Nat} {l : List Nat} (h : UH w a n c l) (hi : i < n) : ∃ b off, a = some ⟨b, off, none⟩ ∧ w.cell? ⟨b, off + i, none⟩ = some (.int .u16 (l.getD i 0 : Nat)) := by
  rcases h.cells with h0 | ⟨b, off, ha, hc⟩
  · have := h.len; rw [h0] at this; simp at this; omega
  · exact ⟨b, off, ha, hc i hi⟩
def CollU (D0 : DataW Unit) (left : Lit → Bool) (ss : List Nat) : Prop := ss.Nodup ∧ ∀ q, q ∈ ss ↔ (Maps.has D0 (ku q) = true ∧ left (ku q) = false)
theorem CollU.start (D0 : DataW Unit) : CollU D0 (Maps.has D0) [] := ⟨List.nodup_nil, fun x => by cases Maps.has D0 (ku x) <;> simp⟩
end Go.Proofs.YtgckapolpifbkaaGreatDoor
namespace Go.Proofs.YtgckapolpifbkaaGreatDoor
set_option maxRecDepth 4000
set_option linter.unusedVariables false
open Go.ChangeShapes Go.WideShapes Go.ChangeAt Go.RowKit
def takF (n : Nat) (F : Nat → Bool) : Nat → Bool := fun a => allF n a && !F a
def boolsF (t : Nat → Bool) (n : Nat) : List Value := (List.range n).map fun i => .bool (t i)
theorem boolsF_len (t : Nat → Bool) (n : Nat) : (boolsF t n).length = n := by simp [boolsF]
theorem boolsF_at (t : Nat → Bool) (n i : Nat) (h : i < n) : (boolsF t n)[i]? = some (.bool (t i)) := by simp [boolsF, h]
theorem takF_in {n a : Nat} (F : Nat → Bool) (h0 : 2 ≤ a) (h1 : a < n) : takF n F a = !F a := by unfold takF allF; simp [h0, h1]
theorem boolsF_set (F : Nat → Bool) (n a : Nat) (b : Bool) (h0 : 2 ≤ a) (h1 : a < n) : (boolsF (takF n F) n).set a (.bool b) = boolsF (takF n (updF F a (!b))) n := by
  apply List.ext_getElem?
  intro i
  rw [List.getElem?_set, boolsF_len]
  by_cases e : a = i
  · subst e
    rw [if_pos rfl, if_pos h1, boolsF_at _ _ _ h1, takF_in _ h0 h1, updF_same]
    cases b <;> rfl
  · rw [if_neg e]
    by_cases hi : i < n
    · rw [boolsF_at _ _ _ hi, boolsF_at _ _ _ hi]
      unfold takF
      rw [updF_other F a i _ (Ne.symm e)]
    · rw [List.getElem?_eq_none (by rw [boolsF_len]; omega), List.getElem?_eq_none (by rw [boolsF_len]; omega)]
structure RW11 (w : World) (M G n : Nat) (F : Nat → Bool) : Prop where
  cell : w.heap[M]? = some (.cells #[.slice (some ⟨G, 0, none⟩) n n] 105 (0, 0))
  row : w.heap[G]? = some (.cells (boolsF (takF n F) n).toArray 4 (0, 0))
  lo : 16 ≤ n
  hi : n ≤ 4096
theorem RW11.at {w : World} {M G n : Nat} {F : Nat → Bool} (h : RW11 w M G n F) : w.cell? ⟨M, 0, none⟩ = some (.slice (some ⟨G, 0, none⟩) n n) := cell_of_row _ _ _ _ _ _ h.cell
theorem RW11.ltM {w : World} {M G n : Nat} {F : Nat → Bool} (h : RW11 w M G n F) : M < w.heap.size := (Array.getElem?_eq_some_iff.1 h.cell).1
theorem RW11.ltG {w : World} {M G n : Nat} {F : Nat → Bool} (h : RW11 w M G n F) : G < w.heap.size := (Array.getElem?_eq_some_iff.1 h.row).1
theorem RW11.ne {w : World} {M G n : Nat} {F : Nat → Bool} (h : RW11 w M G n F) : M ≠ G := fun e => by
  have h1 := h.cell
  rw [e, h.row] at h1
  injection h1 with h1
  injection h1 with h1
  have h2 := congrArg Array.size h1
  simp [boolsF_len] at h2
  have := h.lo
  omega
theorem RW11.touch {w w' : World} {M G n : Nat} {F : Nat → Bool} {l : List Nat} (h : RW11 w M G n F) (t : Touch l w w') (hM : M ∉ l) (hG : G ∉ l) : RW11 w' M G n F :=
  ⟨(t.block M h.ltM hM).trans h.cell, (t.block G h.ltG hG).trans h.row, h.lo, h.hi⟩
theorem RW11.below {w w' : World} {M G n : Nat} {F : Nat → Bool} (h : RW11 w M G n F) (t : Below w.heap.size w w') : RW11 w' M G n F :=
  ⟨(t.block M h.ltM).trans h.cell, (t.block G h.ltG).trans h.row, h.lo, h.hi⟩
theorem RW11.set {w : World} {M G n : Nat} {F : Nat → Bool} (h : RW11 w M G n F) (a : Nat) (b : Bool) (h0 : 2 ≤ a) (h1 : a < n) : RW11 (w.setCell ⟨G, a, none⟩ (.bool b)) M G n (updF F a (!b)) := by
  refine ⟨?_, ?_, h.lo, h.hi⟩
  · rw [heap_setCell_other w ⟨G, a, none⟩ M _ h.ne]; exact h.cell
  · rw [heap_setCell_same w G a _ _ _ h.row]
    congr 2
    rw [List.setIfInBounds_toArray, boolsF_set F n a b h0 h1]
end Go.Proofs.YtgckapolpifbkaaGreatDoor
namespace Go.Proofs.YtgckapolpifbkaaGreatDoor
set_option maxRecDepth 4000
set_option linter.unusedVariables false
open Go.ChangeShapes Go.WideShapes Go.ChangeAt Go.RowKit
end Go.Proofs.YtgckapolpifbkaaGreatDoor
