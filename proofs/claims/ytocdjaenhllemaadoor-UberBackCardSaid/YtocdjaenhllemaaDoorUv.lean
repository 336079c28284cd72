/-
  Ubers of layer 10 as plain values: how one lies in memory, comes in, its bytes, whether it may be, what bytes tell, which of two is chosen.
-/
import Derived.Test.YtocdjaenhllemaaDoorPl
import Derived.Test.YtocdjaenhllemaaDoorRs
import Derived.Test.YtocdjaenhllemaaDoorMac0
namespace Go.Proofs.YtocdjaenhllemaaDoor
set_option maxRecDepth 4000
open Go.ChangeShapes Go.WideShapes Go.ChangeAt Go.RowKit

/-- An uber: number, size, root, each in its bounds. -/
structure UbV where
  tx : Int
  sz : Int
  q : PtrV
  t0 : 0 ≤ tx ∧ tx ≤ 18446744073709551615
  z0 : 0 ≤ sz ∧ sz ≤ 4294967295
theorem UbV.same {u v : UbV} (h1 : u.tx = v.tx) (h2 : u.sz = v.sz) (h3 : u.q = v.q) : u = v := by
  cases u
  cases v
  simp only at h1 h2 h3
  subst h1 h2 h3
  rfl
instance : DecidableEq UbV := fun u v => if h : u.tx = v.tx ∧ u.sz = v.sz ∧ u.q = v.q then isTrue (UbV.same h.1 h.2.1 h.2.2) else isFalse (fun e => h (by subst e; exact ⟨rfl, rfl, rfl⟩))
def zeroUb : UbV := ⟨0, 0, zeroPtr, by decide, by decide⟩
instance : Inhabited UbV := ⟨zeroUb⟩
def ubRow (u : UbV) : List Value := .int .u64 u.tx :: .int .u32 u.sz :: ptrRow u.q
theorem ubRow_length (u : UbV) : (ubRow u).length = 36 := by simp [ubRow, ptrRow_length]
theorem ubRow_inj {u v : UbV} (h : ubRow u = ubRow v) : u = v := by
  unfold ubRow at h
  simp only [List.cons.injEq, Value.int.injEq, true_and] at h
  exact UbV.same h.1 h.2.1 (ptrRow_inj h.2.2)
theorem ubRow_cells1 (u : UbV) : ∀ v ∈ ubRow u, v.oneCell' = true := by
  intro v hv
  simp only [ubRow, List.mem_cons] at hv
  rcases hv with rfl | rfl | hv
  · rfl
  · rfl
  · exact ptrRow_cells1 _ v hv
theorem ubRow_one (u : UbV) : (ubRow u).toArray.all (·.oneCell') = true := by
  apply all_oneCell_toArray
  exact ubRow_cells1 u
theorem size_ub (u : UbV) : (Tryd.prog.info? 30).map (·.size) = some (ubRow u).length := by
  rw [show (Tryd.prog.info? 30).map (·.size) = some 36 by kernel_rfl, ubRow_length u]
theorem size_ubA (u : UbV) : (Tryd.prog.info? 30).map (·.size) = some (ubRow u).toArray.size := by
  rw [size_ub u]; simp
theorem zero_ub (W : World) : (zeroValue 30).run Tryd.prog W = .ok (.agg (ubRow zeroUb).toArray) W := by kernel_rfl
/-- What a block or a row that holds one gives. -/
theorem ub_range {w : World} {b o : Nat} {u : UbV} (h : w.rangeAt b o (ubRow u)) :
    w.cell? ⟨b, o, none⟩ = some (.int .u64 u.tx) ∧ w.cell? ⟨b, o + 1, none⟩ = some (.int .u32 u.sz) ∧ w.rangeAt b (o + 2) (ptrRow u.q) := by
  refine ⟨h 0 _ rfl, h 1 _ rfl, fun j v hj => ?_⟩
  have := h (j + 2) v (by simpa [ubRow] using hj)
  rwa [show o + (j + 2) = o + 2 + j by omega] at this
theorem ub_at {w : World} {b t : Nat} {fr : Nat × Nat} {u : UbV} (h : w.heap[b]? = some (.cells (ubRow u).toArray t fr)) :
    w.cell? ⟨b, 0, none⟩ = some (.int .u64 u.tx) ∧ w.cell? ⟨b, 1, none⟩ = some (.int .u32 u.sz) ∧ w.rangeAt b 2 (ptrRow u.q) := by
  have := ub_range (range_of_row h)
  simpa using this

/-! ### how one comes in -/
def RUbV : World → UbV → List Value → Prop := fun _ u cs => cs = ubRow u
theorem opn_ub : Opn 30 RUbV := by
  intro H enc W fuel cs y h hw
  obtain ⟨xs, k, _, hx, hlen, hxl, hfs⟩ := DataW.trod_struct Tryd.underlying30 h
  rw [show Tryd.prog.cellsOf 30 = 36 by kernel_rfl] at hlen
  have hxk : xs.length = 3 := hxl
  have hd := congrArg Prod.fst hx
  dsimp only at hd
  clear hx hxl
  match xs, hxk with
  | [y0, y1, y2], _ =>
    have e0 : Tryd.prog.cellsOf 23 = 1 := by kernel_rfl
    have e1 : Tryd.prog.cellsOf 24 = 1 := by kernel_rfl
    have e2 : Tryd.prog.cellsOf 28 = 34 := by kernel_rfl
    have hw2 : ∀ n ∈ DataW.weightsEach Tryd.prog [23, 24, 28] [y0.1, y1.1, y2.1], n ≤ reachBytes := fun n hn => hw n (by rw [hd]; simp only [DataW.weights, Tryd.underlying30]; exact hn)
    have g0 : DataW.trod enc Tryd.prog W 0 (fun _ => true) true k 23 ((cs.drop 0).take 1) = some y0 := by have q := hfs 0 _ rfl; rw [← e0]; exact q
    have g1 : DataW.trod enc Tryd.prog W 0 (fun _ => true) true k 24 ((cs.drop 1).take 1) = some y1 := by have q := hfs 1 _ rfl; rw [← e1]; exact q
    have g2 : DataW.trod enc Tryd.prog W 0 (fun _ => true) true k 28 ((cs.drop 2).take 34) = some y2 := by have q := hfs 2 _ rfl; rw [← e2]; exact q
    obtain ⟨a0, r0, l0, h0⟩ := opn_int .u64 _ _ Tryd.underlying23 wf_u64 _ _ _ _ _ _ g0 (fun n hn => hw2 n (DataW.weights_mem_each (j := 0) rfl rfl n hn))
    obtain ⟨a1, r1, l1, h1⟩ := opn_int .u32 _ _ Tryd.underlying24 wf_u32 _ _ _ _ _ _ g1 (fun n hn => hw2 n (DataW.weights_mem_each (j := 1) rfl rfl n hn))
    obtain ⟨q2, r2⟩ := opn_ptr _ _ _ _ _ _ g2 (fun n hn => hw2 n (DataW.weights_mem_each (j := 2) rfl rfl n hn))
    have r2' : (cs.drop 2).take 34 = ptrRow q2 := r2
    have hcs : cs = (cs.drop 0).take 1 ++ ((cs.drop 1).take 1 ++ (cs.drop 2).take 34) := by
      conv => lhs; rw [← List.drop_zero (l := cs), lcut cs 0 1, lcut cs (0 + 1) 1, lcut cs (0 + 1 + 1) 34]
      rw [List.drop_eq_nil_of_le (show cs.length ≤ 0 + 1 + 1 + 34 by omega), List.append_nil]
    rw [r0, r1, r2'] at hcs
    refine ⟨⟨a0, a1, q2, ⟨l0, h0⟩, ⟨l1, h1⟩⟩, ?_⟩
    unfold RUbV
    rw [hcs]
    rfl
theorem par_ub {H : Type} {enc : TypeId × Value → H} {W : World} {base : Nat} {v : Value} {d : DataW H} {p : List MemPlace} {ts : List TypeId} {ds : List (DataW H)} {j : Nat} (_hok : Value.okWide Tryd.prog W .any base 30 v) (h : ∃ fuel, DataW.trod enc Tryd.prog W 0 (fun _ => true) true fuel 30 v.cells.toList = some (d, p))
    (hsz : (DataW.weightsEach Tryd.prog ts ds).all (· ≤ reachBytes) = true) (ht : ts[j]? = some 30) (hd : ds[j]? = some d) : ∃ u : UbV, v = .agg (ubRow u).toArray := by
  obtain ⟨q, hq⟩ := opn_param opn_ub h hsz ht hd
  have e : v.cells.toList = ubRow q := hq
  refine ⟨q, ?_⟩
  rw [agg_cells (v := v) (by rw [e, ubRow_length]; decide)]
  congr 1
  rw [← e]

/-! ### compared -/
def ubLits (u : UbV) : List Lit := .int .u64 u.tx :: .int .u32 u.sz :: ptrLits u.q
theorem lits_ub (u : UbV) (d : Nat) : Tryd.prog.keyLits (d + 4) 30 (ubRow u) = some (ubLits u) := by
  have h1 : Tryd.prog.cellsOf 24 = 1 := by kernel_rfl
  have h2 : Tryd.prog.cellsOf 23 = 1 := by kernel_rfl
  have h3 : Tryd.prog.cellsOf 28 = 34 := by kernel_rfl
  have ha := u.t0
  have hb := u.z0
  have e0 : Tryd.prog.keyLits (d + 3) 23 [Value.int .u64 u.tx] = some [.int .u64 u.tx] := by
    unfold Program.keyLits
    rw [Tryd.underlying23]
    dsimp only
    rw [if_pos ⟨rfl, by simp [Lit.wf, IntKind.min, IntKind.max, IntKind.signed, IntKind.bits]; omega⟩]
  have e1 : Tryd.prog.keyLits (d + 3) 24 [Value.int .u32 u.sz] = some [.int .u32 u.sz] := by
    unfold Program.keyLits
    rw [Tryd.underlying24]
    dsimp only
    rw [if_pos ⟨rfl, by simp [Lit.wf, IntKind.min, IntKind.max, IntKind.signed, IntKind.bits]; omega⟩]
  have e2 := lits_ptr u.q d
  have e3 : (ptrRow u.q).take 34 = ptrRow u.q := List.take_of_length_le (by rw [ptrRow_length]; exact Nat.le_refl _)
  unfold Program.keyLits
  rw [Tryd.underlying30]
  dsimp only
  rw [if_pos ⟨by rw [ubRow_length u]; kernel_rfl, by simp⟩]
  unfold ubRow
  simp [h1, h2, h3, e0, e1, e2, e3, ubLits]
def ukl (u : UbV) : Lit := .string (keyBytes (ubLits u))
theorem key_ub (u : UbV) : keyOf Tryd.prog 30 (.agg (ubRow u).toArray) = some (ukl u) := by
  have ht : ∃ d, Tryd.prog.types.size + 1 = d + 4 := ⟨Tryd.prog.types.size - 3, by rw [show Tryd.prog.types.size = Tryd.prog.types.size - 3 + 3 from of_decide_eq_true (by kernel_rfl)]; rfl⟩
  obtain ⟨d, hd⟩ := ht
  unfold keyOf
  rw [Tryd.underlying30]
  dsimp only
  rw [if_pos, hd]
  · show (Tryd.prog.keyLits (d + 4) 30 (ubRow u).toArray.toList).map _ = _
    rw [show (ubRow u).toArray.toList = ubRow u from rfl, lits_ub u d]
    rfl
  · rw [show Tryd.prog.keyType 30 = true by kernel_rfl, Bool.true_and]
    unfold Value.formed
    rw [Tryd.underlying30]
    simp only [List.size_toArray, ubRow_length, show Tryd.prog.cellsOf 30 = 36 by kernel_rfl]
    rfl
theorem law_ub : WideMaps.KeyLaw Tryd.prog 30 := deep_law_laid laidOut (m := 4) (by decide) (of_decide_eq_true (by kernel_rfl)) (by kernel_rfl) (by rw [Tryd.underlying30])
theorem ukl_inj {u v : UbV} (h : ukl u = ukl v) : u = v := by
  have := (Maps.Keyed.of_law law_ub).inj (key_ub u) (h ▸ key_ub v)
  injection this with e
  exact ubRow_inj (by simpa using congrArg Array.toList e)
theorem eq_ub (u v : UbV) (w : World) : (Op.equalIn 10000 30 (.agg (ubRow u).toArray) (.agg (ubRow v).toArray)).run Tryd.prog w = .ok (decide (u = v)) w := by
  obtain ⟨r, h1, h2⟩ := run_equal_deep w (m := 4) (by decide) (show Tryd.prog.keyTypeAt 4 30 = true by kernel_rfl) (by rw [Tryd.underlying30]) (key_ub u) (key_ub v)
  have e : r = decide (u = v) := by
    by_cases h : u = v
    · subst h; simp [h2.2 rfl]
    · rw [decide_eq_false h]
      cases r with
      | false => rfl
      | true => exact absurd (ukl_inj (h2.1 rfl)) h
  rw [← e]
  exact h1

/-! ### whether one may be, its bytes -/
def mayU (u : UbV) : Bool := decide (u.tx ≠ 0) && decide (16 ≤ u.sz) && decide (u.sz ≤ 4096) && mayB u.q u.sz
def checkU (u : UbV) : Int := if mayU u then 0 else 4
def headB : List Int := [66, 78, 89, 78]
def plainB (u : UbV) : List Int := headB ++ (putI u.tx 8 ++ (putI u.sz 4 ++ (ptrB u.q ++ List.replicate 420 0)))
theorem plainB_length (u : UbV) : (plainB u).length = 480 := by simp [plainB, headB, putI_length, ptrB_length]
theorem byt_app10 {l m : List Int} (h : Byt l) (k : Byt m) : Byt (l ++ m) := fun z hz => by
  rcases List.mem_append.1 hz with e | e
  · exact h z e
  · exact k z e
theorem headB_byt : Byt headB := by unfold headB Byt; decide
theorem plainB_byt (u : UbV) : Byt (plainB u) := byt_app10 headB_byt (byt_app10 (putI_byt _ _) (byt_app10 (putI_byt _ _) (byt_app10 (ptrB_byt _) (byt_zeros8 _))))
/-- The uber that bytes are. -/
def ubOf (l : List Int) : UbV :=
  if h : 16 ≤ l.length ∧ Byt l then
    ⟨num ((l.drop 4).take 8), num ((l.drop 12).take 4), ptrOf (l.drop 16),
      num_le8 _ (byt_take8 _ (byt_drop8 _ h.2 4) 8) 8 (by rw [List.length_take, List.length_drop]; omega) _ (by decide),
      num_le8 _ (byt_take8 _ (byt_drop8 _ h.2 12) 4) 4 (by rw [List.length_take, List.length_drop]; omega) _ (by decide)⟩
  else zeroUb
theorem ubOf_parts (l : List Int) (h : 16 ≤ l.length) (hb : Byt l) : num ((l.drop 4).take 8) = (ubOf l).tx ∧ num ((l.drop 12).take 4) = (ubOf l).sz ∧ ptrOf (l.drop 16) = (ubOf l).q := by
  unfold ubOf
  rw [dif_pos ⟨h, hb⟩]
  exact ⟨rfl, rfl, rfl⟩
theorem take_app {α : Type} (l m : List α) (k : Nat) (h : l.length = k) : (l ++ m).take k = l := by rw [← h, List.take_left]
theorem drop_app {α : Type} (l m : List α) (k : Nat) (h : l.length = k) : (l ++ m).drop k = m := by rw [← h, List.drop_left]
theorem ubOf_plainB (u : UbV) : ubOf (plainB u) = u := by
  obtain ⟨p1, p2, p3⟩ := ubOf_parts (plainB u) (by rw [plainB_length]; omega) (plainB_byt u)
  have d4 : (plainB u).drop 4 = putI u.tx 8 ++ (putI u.sz 4 ++ (ptrB u.q ++ List.replicate 420 0)) := drop_app _ _ 4 rfl
  have d12 : (plainB u).drop 12 = putI u.sz 4 ++ (ptrB u.q ++ List.replicate 420 0) := by
    rw [show (12 : Nat) = 4 + 8 from rfl, ← List.drop_drop, d4, drop_app _ _ 8 (putI_length _ _)]
  have d16 : (plainB u).drop 16 = ptrB u.q ++ List.replicate 420 0 := by
    rw [show (16 : Nat) = 12 + 4 from rfl, ← List.drop_drop, d12, drop_app _ _ 4 (putI_length _ _)]
  refine UbV.same ?_ ?_ ?_
  · rw [← p1, d4, take_app _ _ 8 (putI_length _ _)]
    exact putI_num 8 _ u.t0.1 (by have := u.t0.2; omega)
  · rw [← p2, d12, take_app _ _ 4 (putI_length _ _)]
    exact putI_num 4 _ u.z0.1 (by have := u.z0.2; omega)
  · rw [← p3, d16]
    exact ptrOf_ptrB _ _ (byt_zeros8 _)
theorem plainB_inj {u v : UbV} (h : plainB u = plainB v) : u = v := by rw [← ubOf_plainB u, h, ubOf_plainB v]
/-- What Put answers. -/
def putU (key : List Int) (u : UbV) : List Int := plainB u ++ macS key (plainB u)
theorem putU_length (key : List Int) (u : UbV) : (putU key u).length = 512 := by rw [putU, List.length_append, plainB_length, macS_length]
theorem putU_byt (key : List Int) (u : UbV) : Byt (putU key u) := byt_app10 (plainB_byt u) (macS_byt _ _)
theorem putU_take (key : List Int) (u : UbV) : (putU key u).take 480 = plainB u := take_app _ _ 480 (plainB_length u)
theorem putU_drop (key : List Int) (u : UbV) : (putU key u).drop 480 = macS key (plainB u) := drop_app _ _ 480 (plainB_length u)
/-- What Get answers. -/
def getU (key b : List Int) : UbV × Int :=
  if b.length ≠ 512 then (zeroUb, 2)
  else if b.drop 480 ≠ macS key (b.take 480) then (zeroUb, 5)
  else if mayU (ubOf (b.take 480)) = true ∧ plainB (ubOf (b.take 480)) = b.take 480 then (ubOf (b.take 480), 0)
  else (zeroUb, 4)
theorem getU_putU (key : List Int) (u : UbV) (h : mayU u = true) : getU key (putU key u) = (u, 0) := by
  unfold getU
  rw [if_neg (by rw [putU_length]; simp), if_neg (by rw [putU_take, putU_drop]; simp), putU_take, ubOf_plainB, if_pos ⟨h, rfl⟩]
theorem getU_ok {key b : List Int} (h : (getU key b).2 = 0) : mayU (getU key b).1 = true ∧ b = putU key (getU key b).1 := by
  unfold getU at h ⊢
  by_cases h1 : b.length ≠ 512
  · rw [if_pos h1] at h; simp at h
  rw [if_neg h1] at h ⊢
  by_cases h2 : b.drop 480 ≠ macS key (b.take 480)
  · rw [if_pos h2] at h; simp at h
  rw [if_neg h2] at h ⊢
  by_cases h3 : mayU (ubOf (b.take 480)) = true ∧ plainB (ubOf (b.take 480)) = b.take 480
  · rw [if_pos h3]
    refine ⟨h3.1, ?_⟩
    show b = putU key (ubOf (b.take 480))
    unfold putU
    rw [h3.2, ← Decidable.of_not_not h2, List.take_append_drop]
  · rw [if_neg h3] at h; simp at h
/-- Which of two is chosen. -/
def pickU (s : Int) (g : UbV × Int) : Bool := decide (g.2 = 0) && decide (g.1.tx % 2 = s)
def chooseU (key a b : List Int) : UbV × Int :=
  if pickU 0 (getU key a) = true ∧ (pickU 1 (getU key b) = true → (getU key b).1.tx < (getU key a).1.tx) then ((getU key a).1, 0)
  else if pickU 1 (getU key b) = true then ((getU key b).1, 0)
  else (zeroUb, 8)
end Go.Proofs.YtocdjaenhllemaaDoor
