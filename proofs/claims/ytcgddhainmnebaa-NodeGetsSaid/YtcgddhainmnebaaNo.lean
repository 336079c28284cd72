/-
  Nodes of layer 9 as plain values: how one lies in memory, comes in; what may be, how many bytes it has.
-/
import Derived.Test.YtcgddhainmnebaaSt
import Derived.Test.YtcgddhainmnebaaAp
namespace Go.Proofs.Ytcgddhainmnebaa
set_option maxRecDepth 4000
set_option linter.unusedVariables false
open Go.ChangeShapes Go.WideShapes Go.ChangeAt Go.RowKit

/-- A node. -/
structure NodeV where
  lf : Bool
  ks : List ByteArray
  vs : List ByteArray
  ps : List PtrV
def zeroNode : NodeV := ⟨false, [], [], []⟩
/-- Where its slices lie. -/
structure NR (w : World) (k v p : Value) (n : NodeV) : Prop where
  ks : SS w k n.ks
  vs : SS w v n.vs
  ps : PS w p n.ps
theorem NR.below {w w' : World} {k v p : Value} {n : NodeV} (h : NR w k v p n) (b : Below w.heap.size w w') : NR w' k v p n := ⟨h.ks.below b, h.vs.below b, h.ps.below b⟩
/-- No slice, no string is longer than any machine holds. -/
structure NB (n : NodeV) : Prop where
  kl : n.ks.length ≤ 140737488351232
  kz : ∀ s ∈ n.ks, s.size ≤ 140737488351232
  vl : n.vs.length ≤ 140737488351232
  vz : ∀ s ∈ n.vs, s.size ≤ 140737488351232
  pl : n.ps.length ≤ 140737488351232
theorem nb_zero : NB zeroNode := ⟨by decide, nofun, by decide, nofun, by decide⟩
theorem ps_nil (w : World) : PS w (.slice none 0 0) [] := ⟨none, 0, rfl, fun i q hq => by simp at hq⟩
theorem nr_zero (w : World) : NR w (.slice none 0 0) (.slice none 0 0) (.slice none 0 0) zeroNode := ⟨ss_nil w, ss_nil w, ps_nil w⟩
theorem size_node (x : Bool) (k v p : Value) : (Try.prog.info? 25).map (·.size) = some (#[.bool x, k, v, p] : Array Value).size := by rw [show (Try.prog.info? 25).map (·.size) = some 4 by kernel_rfl]; rfl
theorem node_at {w : World} {g t : Nat} {x : Bool} {k v p : Value} {fr : Nat × Nat} (h : w.heap[g]? = some (.cells #[.bool x, k, v, p] t fr)) :
    w.cell? ⟨g, 0, none⟩ = some (.bool x) ∧ w.cell? ⟨g, 1, none⟩ = some k ∧ w.cell? ⟨g, 2, none⟩ = some v ∧ w.cell? ⟨g, 3, none⟩ = some p :=
  ⟨cell_of_row _ _ _ _ _ _ h, cell_of_row _ _ _ _ _ _ h, cell_of_row _ _ _ _ _ _ h, cell_of_row _ _ _ _ _ _ h⟩

/-! ### how one comes in -/
def RNode : World → NodeV → List Value → Prop := fun W n cs => ∃ k v p, cs = [.bool n.lf, k, v, p] ∧ NR W k v p n ∧ NB n
theorem sl_str {W : World} {l : List ByteArray} {a : Option Addr} {n c : Nat} (h : SlR RStr 1 W l a n c) : SS W (.slice a n c) l ∧ l.length ≤ 140737488351232 ∧ ∀ s ∈ l, s.size ≤ 140737488351232 := by
  refine ⟨⟨a, c, by rw [h.len], by rw [h.len]; exact h.cap, fun i s hs => ?_⟩, by have := h.cap; have := h.big; have := h.len; omega, fun s hs => ?_⟩
  · obtain ⟨hi, rfl⟩ := List.getElem?_eq_some_iff.1 hs
    obtain ⟨b, off, cs, h1, ⟨h2, _⟩, h3, h4⟩ := h.here i hi
    subst h2
    exact ⟨b, off, h1, by have := h4 0 _ rfl; simpa using this⟩
  · obtain ⟨i, hi, rfl⟩ := List.getElem_of_mem hs
    obtain ⟨b, off, cs, h1, ⟨_, h2⟩, h3, h4⟩ := h.here i hi
    exact h2
theorem opn_strs : Opn 22 (RSl RStr 1) := opn_slice 1 Try.underlying22 (by kernel_rfl) (by decide) (of_decide_eq_true (by kernel_rfl)) (opn_str Try.underlying9)
theorem opn_node : Opn 25 RNode := by
  intro H enc W fuel cs y h hw
  obtain ⟨xs, k, _, hx, hlen, hxl, hfs⟩ := DataW.trod_struct Try.underlying25 h
  rw [show Try.prog.cellsOf 25 = 4 by kernel_rfl] at hlen
  have hxk : xs.length = 4 := hxl
  have hd := congrArg Prod.fst hx
  dsimp only at hd
  clear hx hxl
  match xs, hxk with
  | [y0, y1, y2, y3], _ =>
    have e0 : Try.prog.cellsOf 4 = 1 := by kernel_rfl
    have e1 : Try.prog.cellsOf 22 = 1 := by kernel_rfl
    have e2 : Try.prog.cellsOf 23 = 1 := by kernel_rfl
    have hw2 : ∀ n ∈ DataW.weightsEach Try.prog [4, 22, 22, 23] [y0.1, y1.1, y2.1, y3.1], n ≤ reachBytes := fun n hn => hw n (by rw [hd]; simp only [DataW.weights, Try.underlying25]; exact hn)
    have g0 : DataW.trod enc Try.prog W 0 (fun _ => true) true k 4 ((cs.drop 0).take 1) = some y0 := by have q := hfs 0 _ rfl; rw [← e0]; exact q
    have g1 : DataW.trod enc Try.prog W 0 (fun _ => true) true k 22 ((cs.drop 1).take 1) = some y1 := by have q := hfs 1 _ rfl; rw [← e1]; exact q
    have g2 : DataW.trod enc Try.prog W 0 (fun _ => true) true k 22 ((cs.drop 2).take 1) = some y2 := by have q := hfs 2 _ rfl; rw [← e1]; exact q
    have g3 : DataW.trod enc Try.prog W 0 (fun _ => true) true k 23 ((cs.drop 3).take 1) = some y3 := by have q := hfs 3 _ rfl; rw [← e2]; exact q
    obtain ⟨a0, r0⟩ := opn_bool Try.underlying4 _ _ _ _ _ _ g0 (fun n hn => hw2 n (DataW.weights_mem_each (j := 0) rfl rfl n hn))
    obtain ⟨a1, s1, n1, c1, r1, q1⟩ := opn_strs _ _ _ _ _ _ g1 (fun n hn => hw2 n (DataW.weights_mem_each (j := 1) rfl rfl n hn))
    obtain ⟨a2, s2, n2, c2, r2, q2⟩ := opn_strs _ _ _ _ _ _ g2 (fun n hn => hw2 n (DataW.weights_mem_each (j := 2) rfl rfl n hn))
    obtain ⟨a3, s3, n3, c3, r3, q3⟩ := opn_ptrs _ _ _ _ _ _ g3 (fun n hn => hw2 n (DataW.weights_mem_each (j := 3) rfl rfl n hn))
    have hcs : cs = (cs.drop 0).take 1 ++ ((cs.drop 1).take 1 ++ ((cs.drop 2).take 1 ++ (cs.drop 3).take 1)) := by
      match cs, hlen with
      | [_, _, _, _], _ => rfl
    have r0' : (cs.drop 0).take 1 = [.bool a0] := r0
    rw [r0', r1, r2, r3] at hcs
    obtain ⟨f1, l1, z1⟩ := sl_str q1
    obtain ⟨f2, l2, z2⟩ := sl_str q2
    exact ⟨⟨a0, a1, a2, a3⟩, _, _, _, hcs, ⟨f1, f2, ps_in q3⟩, ⟨l1, z1, l2, z2, by have := q3.len; have := q3.cap; have := q3.big; dsimp only; omega⟩⟩
theorem par_node {H : Type} {enc : TypeId × Value → H} {W : World} {base : Nat} {v : Value} {d : DataW H} {p : List MemPlace} {ts : List TypeId} {ds : List (DataW H)} {j : Nat} (_hok : Value.okWide Try.prog W .any base 25 v) (h : ∃ fuel, DataW.trod enc Try.prog W 0 (fun _ => true) true fuel 25 v.cells.toList = some (d, p))
    (hsz : (DataW.weightsEach Try.prog ts ds).all (· ≤ reachBytes) = true) (ht : ts[j]? = some 25) (hd : ds[j]? = some d) : ∃ (k v' p' : Value) (n : NodeV), v = .agg #[.bool n.lf, k, v', p'] ∧ NR W k v' p' n ∧ NB n := by
  obtain ⟨n, k, v', p', e, hr, hb⟩ := opn_param opn_node h hsz ht hd
  refine ⟨k, v', p', n, ?_, hr, hb⟩
  rw [agg_cells (v := v) (by rw [e]; simp)]
  congr 1
  exact Array.toList_inj.1 e

/-! ### what may be -/
def risesFrom : ByteArray → List ByteArray → Bool
  | _, [] => true
  | a, k :: r => lo a k && decide (k.size ≤ 32) && risesFrom k r
def valOk (s : ByteArray) : Bool := decide (s.size ≤ 96)
def kidOk (q : PtrV) : Bool := !(q.ad == 0) && decide (checkE q 4096 = 0)
def countsB (n : NodeV) : Bool := if n.lf then decide (n.vs.length = n.ks.length) && decide (n.ps.length = 0) else decide (0 < n.ks.length) && decide (n.vs.length = 0) && decide (n.ps.length = n.ks.length + 1)
def formB (n : NodeV) : Bool := countsB n && risesFrom ⟨#[]⟩ n.ks && n.vs.all valOk && n.ps.all kidOk
def txs : List ByteArray → Nat
  | [] => 0
  | s :: r => 1 + s.size + txs r
def sizeN (n : NodeV) : Nat := 2 + txs n.ks + txs n.vs + 44 * n.ps.length
def sizeA (n : NodeV) : Int × Int := if formB n then ((sizeN n : Nat), 0) else (0, 4)
def checkN (n : NodeV) : Int := if formB n then (if sizeN n ≤ 512 then 0 else 6) else 4
theorem txs_app (l m : List ByteArray) : txs (l ++ m) = txs l + txs m := by
  induction l with
  | nil => simp [txs]
  | cons s l ih => simp only [List.cons_append, txs, ih]; omega
theorem txs_le (l : List ByteArray) (k : Nat) (h : ∀ s ∈ l, s.size ≤ k) : txs l ≤ l.length * (k + 1) := by
  induction l with
  | nil => simp [txs]
  | cons s l ih =>
    have h1 := h s (by simp)
    have h2 := ih (fun t ht => h t (by simp [ht]))
    simp only [txs, List.length_cons, Nat.add_mul]
    omega
theorem rises_small : ∀ (a : ByteArray) (l : List ByteArray), risesFrom a l = true → ∀ s ∈ l, s.size ≤ 32
  | _, [], _, s, hs => by simp at hs
  | a, k :: r, h, s, hs => by
    unfold risesFrom at h
    simp only [Bool.and_eq_true, decide_eq_true_eq] at h
    rcases List.mem_cons.1 hs with rfl | hs
    · exact h.1.2
    · exact rises_small k r h.2 s hs
theorem form_small {n : NodeV} (h : formB n = true) : (∀ s ∈ n.ks, s.size ≤ 32) ∧ (∀ s ∈ n.vs, s.size ≤ 96) := by
  unfold formB at h
  simp only [Bool.and_eq_true] at h
  exact ⟨rises_small _ _ h.1.1.2, fun s hs => by have := List.all_eq_true.1 h.1.2 s hs; simpa [valOk] using this⟩
set_option maxRecDepth 100000 in
set_option maxHeartbeats 1600000 in
theorem ptxs_any (u : Value) (l : List ByteArray) (w : World) (h : SS w u l) (hl : l.length ≤ 140737488351232) (hz : ∀ s ∈ l, s.size ≤ 96) :
    Calls Try.prog 47 #[u] w fun e w' => e = .returned (.int .i64 (txs l : Nat)) ∧ w' = w := by
  obtain ⟨a, c, rfl, hc, h1⟩ := h
  clear hc
  obtain ⟨n, hn⟩ : ∃ n, l.length = n := ⟨_, rfl⟩
  have H1 := Lib.hid h1
  have HN := Lib.hid hn
  have HZ := Lib.hid hz
  rw [hn] at hl ⊢
  have lI : (n : Int) ≤ 140737488351232 := by omega
  have HX := Lib.hid (show ∀ i, i ≤ n → txs (l.take i) ≤ 13651536370069504 from fun i hi => by
    have := txs_le (l.take i) 96 (fun s hs => hz s (List.mem_of_mem_take hs))
    rw [List.length_take] at this
    omega)
  have HE := Lib.hid (show txs (l.take n) = txs l by rw [← hn, List.take_length])
  clear h1 hz hn hl
  go_enter Try.func47, Try.ntmps47
  go_wp2_with fail
  go_loopw [3, 5, 8] (fun v3 _ v8 wr => ∃ i : Nat, i ≤ n ∧ v8 = .int .i64 (i : Int) ∧ v3 = .int .i64 ((txs (l.take i) : Nat) : Int) ∧ wr = w) (fun _ _ v _ => n - (intOf v).toNat)
  case atStart => exact ⟨0, by omega, rfl, rfl, rfl⟩
  case round =>
    obtain ⟨i, hi, rfl, rfl, rfl⟩ := hrel
    by_cases hlt : i < n
    · obtain ⟨p, hp⟩ : ∃ p, l[i]? = some p := ⟨_, List.getElem?_eq_getElem (by have := HN.out; omega)⟩
      obtain ⟨b1, o1, rfl, g1⟩ := H1.out i p hp
      have hix := index_sl b1 o1 n c i hlt
      have HS := Lib.hid (show txs (l.take (i + 1)) = txs (l.take i) + (1 + p.size) by rw [List.take_add_one, hp, txs_app]; simp [txs])
      have hps := HZ.out p (List.mem_of_getElem? hp)
      have psI : (p.size : Int) ≤ 96 := by omega
      have hx1 : ((txs (l.take i) : Nat) : Int) ≤ 13651536370069504 := by have := HX.out i hi; omega
      have hx0 : (0 : Int) ≤ ((txs (l.take i) : Nat) : Int) := by omega
      have HLT := Lib.hid hlt
      have iI : (i : Int) < (n : Int) := by omega
      have i0 : (0 : Int) ≤ (i : Int) := by omega
      generalize txs (l.take i) = T at *
      clear hi hlt hp hps
      go_wp2_with fail
      go_roundw
      case rel => exact ⟨i + 1, by have := HLT.out; omega, by go_num, by rw [HS.out]; go_num, trivial⟩
      case measure => simp [intOf]; have := HLT.out; omega
    · obtain rfl : i = n := by omega
      clear hi hlt
      have hx1 : ((txs (l.take i) : Nat) : Int) ≤ 13651536370069504 := by have := HX.out i (Nat.le_refl _); omega
      go_wp2_with fail
      go_ret
      rw [HE.out]
      exact ⟨rfl, rfl⟩
end Go.Proofs.Ytcgddhainmnebaa
