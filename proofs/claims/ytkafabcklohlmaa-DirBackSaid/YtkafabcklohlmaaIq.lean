/-
  Datasets: how the struct of DirNames comes in; a root set in a block; a dataset set in a row of one's own.
-/
import Derived.Test.YtkafabcklohlmaaIp
namespace Go.Proofs.Ytkafabcklohlmaa
set_option maxRecDepth 4000
set_option linter.unusedVariables false
open Go.ChangeShapes Go.WideShapes Go.ChangeAt Go.RowKit

def RNamesD : World → Unit → List Value → Prop := fun W _ cs => ∃ (x : List ActD) (a : Option Addr) (n c : Nat) (wh : Int) (nm ot : ByteArray), cs = [.slice a n c, .int .u8 wh, .string nm, .string ot] ∧ SlR RActD 3 W x a n c ∧ (0 ≤ wh ∧ wh ≤ 255) ∧ nm.size ≤ 140737488351232 ∧ ot.size ≤ 140737488351232
theorem opn_names15 : Opn 54 RNamesD := by
  intro H enc W fuel cs y h hw
  obtain ⟨xs, k, _, hx, hlen, hxl, hfs⟩ := DataW.trod_struct Try.underlying54 h
  rw [show Try.prog.cellsOf 54 = 4 by kernel_rfl] at hlen
  have hxk : xs.length = 4 := hxl
  have hd := congrArg Prod.fst hx
  dsimp only at hd
  clear hx hxl
  match xs, hxk with
  | [y0, y1, y2, y3], _ =>
    have ea : Try.prog.cellsOf 23 = 1 := by kernel_rfl
    have eu : Try.prog.cellsOf 5 = 1 := by kernel_rfl
    have es : Try.prog.cellsOf 9 = 1 := by kernel_rfl
    have hw2 : ∀ n ∈ DataW.weightsEach Try.prog [23, 5, 9, 9] [y0.1, y1.1, y2.1, y3.1], n ≤ reachBytes := fun n hn => hw n (by rw [hd]; simp only [DataW.weights, Try.underlying54]; exact hn)
    have g0 : DataW.trod enc Try.prog W 0 (fun _ => true) true k 23 ((cs.drop 0).take 1) = some y0 := by have q := hfs 0 _ rfl; rw [← ea]; exact q
    have g1 : DataW.trod enc Try.prog W 0 (fun _ => true) true k 5 ((cs.drop 1).take 1) = some y1 := by have q := hfs 1 _ rfl; rw [← eu]; exact q
    have g2 : DataW.trod enc Try.prog W 0 (fun _ => true) true k 9 ((cs.drop 2).take 1) = some y2 := by have q := hfs 2 _ rfl; rw [← es]; exact q
    have g3 : DataW.trod enc Try.prog W 0 (fun _ => true) true k 9 ((cs.drop 3).take 1) = some y3 := by have q := hfs 3 _ rfl; rw [← es]; exact q
    obtain ⟨x, a, n, c, r0, sl⟩ := opn_acts15 _ _ _ _ _ _ g0 (fun n hn => hw2 n (DataW.weights_mem_each (j := 0) rfl rfl n hn))
    obtain ⟨wh, r1, k0, k1⟩ := opn_int .u8 _ _ Try.underlying5 wf_u8 _ _ _ _ _ _ g1 (fun n hn => hw2 n (DataW.weights_mem_each (j := 1) rfl rfl n hn))
    obtain ⟨sa, r2, z1⟩ := opn_str Try.underlying9 _ _ _ _ _ _ g2 (fun n hn => hw2 n (DataW.weights_mem_each (j := 2) rfl rfl n hn))
    obtain ⟨sb, r3, z2⟩ := opn_str Try.underlying9 _ _ _ _ _ _ g3 (fun n hn => hw2 n (DataW.weights_mem_each (j := 3) rfl rfl n hn))
    have hcs : cs = (cs.drop 0).take 1 ++ ((cs.drop 1).take 1 ++ ((cs.drop 2).take 1 ++ (cs.drop 3).take 1)) := by
      match cs, hlen with
      | [_, _, _, _], _ => rfl
    rw [r0, r1, r2, r3] at hcs
    exact ⟨(), x, a, n, c, wh, sa, sb, hcs, sl, ⟨k0, k1⟩, z1, z2⟩
theorem par_names15 {H : Type} {enc : TypeId × Value → H} {W : World} {base : Nat} {v : Value} {d : DataW H} {p : List MemPlace} {ts : List TypeId} {ds : List (DataW H)} {j : Nat} (_hok : Value.okWide Try.prog W .any base 54 v) (h : ∃ fuel, DataW.trod enc Try.prog W 0 (fun _ => true) true fuel 54 v.cells.toList = some (d, p))
    (hsz : (DataW.weightsEach Try.prog ts ds).all (· ≤ reachBytes) = true) (ht : ts[j]? = some 54) (hd : ds[j]? = some d) : ∃ (x : List ActD) (a : Option Addr) (n c : Nat) (wh : Int) (nm ot : ByteArray), v = .agg #[.slice a n c, .int .u8 wh, .string nm, .string ot] ∧ SlR RActD 3 W x a n c ∧ (0 ≤ wh ∧ wh ≤ 255) ∧ nm.size ≤ 140737488351232 ∧ ot.size ≤ 140737488351232 := by
  rcases opn_param opn_names15 h hsz ht hd with ⟨_, x, a, n, c, wh, nm, ot, e, q⟩
  refine ⟨x, a, n, c, wh, nm, ot, ?_, q⟩
  rw [agg_cells (v := v) (by rw [e]; simp)]
  congr 1
  rw [← e]
/-! ### a root -/
def exR : PtrV := ⟨9, 3, List.replicate 32 0, by decide, by decide, by decide, byt_zeros8 32⟩
theorem may_exR : mayB exR 4096 = true := by decide
theorem build_exR (W : World) : (Instr.build 36 #[(0, .int .u32 9), (1, .int .u64 3)]).run Try.prog W = .ok (.agg (ptrRow exR).toArray) W :=
  run_build W 36 _ _ (by rw [built_ptr]; rfl)
theorem put_rt (s : SetV) (r : PtrV) : putAt (setRow s) 3 (ptrRow r) = setRow ⟨s.nm, s.fr, s.sn, r⟩ := by
  unfold putAt
  rw [List.drop_eq_nil_of_le (by rw [setRow_length, ptrRow_length]; decide), List.append_nil]
  rfl
theorem rt_put {w : World} {X : Nat} {AR : Array Value} {s : SetV} (h : w.heap[X]? = some (.cells AR 38 (0, 0))) (hr : SetR AR s) (r : PtrV) :
    (w.setCells X 3 (ptrRow r)).heap[X]? = some (.cells (setRow ⟨s.nm, s.fr, s.sn, r⟩).toArray 38 (0, 0)) := by
  rw [← hr.eq] at h
  rw [heap_putAt X _ (ptrRow r) 3 w (setRow s) h (by rw [ptrRow_length, setRow_length]; decide), put_rt]
theorem there_row {w : World} {b : Nat} {cur : Array Value} {t : TypeId} (h : w.heap[b]? = some (.cells cur t (0, 0))) {o n : Nat} (hl : o + n ≤ cur.size) : w.there b o n := fun j hj =>
  ⟨by rw [cell_of_row w b (o + j) cur _ _ h, Array.getElem?_eq_getElem (by omega)]; rfl, frozen_of_row w b (o + j) _ _ h⟩
theorem rows_put : ∀ (S : List SetV) (k : Nat) (q : SetV), k < S.length → rowsS (S.set k q) = putAt (rowsS S) (k * 37) (setRow q)
  | [], k, q, h => by simp at h
  | y :: S, 0, q, h => by
    show setRow q ++ rowsS S = putAt (setRow y ++ rowsS S) (0 * 37) (setRow q)
    unfold putAt
    rw [Nat.zero_mul, List.take_zero, List.nil_append, setRow_length, Nat.zero_add, ← setRow_length y, List.drop_left]
  | y :: S, k + 1, q, h => by
    have := rows_put S k q (by simpa using h)
    show setRow y ++ rowsS (S.set k q) = putAt (setRow y ++ rowsS S) ((k + 1) * 37) (setRow q)
    rw [this]
    unfold putAt
    have e : (k + 1) * 37 = (setRow y).length + k * 37 := by rw [setRow_length]; omega
    rw [e, List.take_length_add_append, Nat.add_assoc, List.drop_length_add_append, List.append_assoc, List.append_assoc]
    simp only [List.append_assoc]
theorem take_put {cur vs : List Value} {o m : Nat} (h1 : o + vs.length ≤ m) (h2 : m ≤ cur.length) : (putAt cur o vs).take m = putAt (cur.take m) o vs := by
  unfold putAt
  rw [List.take_append, List.take_of_length_le (by rw [List.length_append, List.length_take]; omega), List.length_append, List.length_take, List.take_take, List.drop_take, Nat.min_eq_left (by omega), Nat.min_eq_left (by omega)]
theorem putAt_len {cur vs : List Value} {o : Nat} (h : o + vs.length ≤ cur.length) : (putAt cur o vs).length = cur.length := by
  unfold putAt
  rw [List.length_append, List.length_append, List.length_take, List.length_drop]
  omega
theorem ows_put {w : World} {B g n cap k : Nat} {S : List SetV} (h : OWS w B (.slice (some ⟨g, 0, none⟩) n cap) S) (hk : k < S.length) (q : SetV) :
    OWS (w.setCells g (k * 37) (setRow q)) B (.slice (some ⟨g, 0, none⟩) n cap) (S.set k q) ∧ w.there g (k * 37) 37 ∧ B ≤ g ∧ n = S.length := by
  rcases h.2 with ⟨e, h0⟩ | ⟨g', cap', cur, e, hb, hc, h1, h2, h3, h4⟩
  · cases e
  · injection e with e1 e2 e3
    injection e1 with e1
    injection e1 with e1
    subst e1 e3
    have hl : k * 37 + (setRow q).length ≤ S.length * 37 := by rw [setRow_length]; omega
    have hm : S.length * 37 ≤ cur.toList.length := by
      have e : cur.toList.length = cur.size := Array.length_toList
      rw [e, h3]
      exact Nat.mul_le_mul_right _ h1
    refine ⟨⟨by rw [List.length_set, rowsS_len, List.length_set], .inr ⟨g, cap, (putAt cur.toList (k * 37) (setRow q)).toArray, by rw [List.length_set, e2], hb, heap_putAt g _ (setRow q) (k * 37) w cur.toList (by rw [Array.toArray_toList]; exact hc) (by omega), by rw [List.length_set]; exact h1, h2, ?_, ?_⟩⟩, there_row hc (by have e : cur.toList.length = cur.size := Array.length_toList; rw [e] at hm; rw [setRow_length] at hl; omega), hb, e2⟩
    · rw [List.size_toArray, putAt_len (by omega), Array.length_toList]; exact h3
    · rw [List.length_set, show (putAt cur.toList (k * 37) (setRow q)).toArray.toList = putAt cur.toList (k * 37) (setRow q) from rfl, take_put hl hm, h4, rows_put S k q hk]
theorem heap_sets_other (b : Nat) : ∀ (vs : List Value) (o : Nat) (w : World) (k : Nat), k ≠ b → (w.setCells b o vs).heap[k]? = w.heap[k]?
  | [], _, _, _, _ => rfl
  | v :: r, o, w, k, h => (heap_sets_other b r (o + 1) (w.setCell ⟨b, o, none⟩ v) k h).trans (heap_setCell_other w ⟨b, o, none⟩ k v h)
theorem sets_drew (b : Nat) : ∀ (vs : List Value) (o : Nat) (w : World) (k : Nat), (w.drew.setCells b o vs).heap[k]? = (w.setCells b o vs).heap[k]?
  | [], _, _, _ => rfl
  | v :: r, o, w, k => sets_drew b r (o + 1) (w.setCell ⟨b, o, none⟩ v) k
end Go.Proofs.Ytkafabcklohlmaa
