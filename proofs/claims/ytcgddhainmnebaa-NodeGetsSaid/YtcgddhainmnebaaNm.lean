/-
  What a node's bytes tell is the node; Same of layer 9.
-/
import Derived.Test.YtcgddhainmnebaaNx
namespace Go.Proofs.Ytcgddhainmnebaa
set_option maxRecDepth 4000
set_option linter.unusedVariables false
open Go.ChangeShapes Go.WideShapes Go.ChangeAt Go.RowKit

theorem nums_btxt (s : ByteArray) : strOfNums (btxt s) = s := by
  have h : (strOfNums (btxt s)).data.toList = s.data.toList := by
    rw [strOfNums_data]
    unfold btxt
    rw [List.map_map]
    conv => rhs; rw [← List.map_id s.data.toList]
    apply List.map_congr_left
    intro b _
    simp
  cases s with
  | mk d =>
    have h2 : (strOfNums (btxt ⟨d⟩)).data = d := Array.toList_inj.1 h
    exact (show strOfNums (btxt ⟨d⟩) = ⟨(strOfNums (btxt ⟨d⟩)).data⟩ from rfl).trans (by rw [h2])
theorem strA_keyB {s : ByteArray} (h : s.size ≤ 255) (R : List Int) : strA (keyB s ++ R) = (s, 0, R) := by
  rw [keyB_small h]
  unfold strA
  rw [if_neg (by simp [btxt_length]; omega)]
  simp only [List.cons_append, List.getD_cons_zero, Int.toNat_natCast, List.drop_succ_cons, List.drop_zero]
  rw [List.take_append_of_le_length (by rw [btxt_length]; omega), List.take_of_length_le (by rw [btxt_length]; omega), nums_btxt, Nat.add_comm 1, List.drop_succ_cons, ← btxt_length, List.drop_left]
theorem rd_leaf : ∀ (n : Nat) (k v : List ByteArray) (X : List Int), v.length = k.length → (∀ s ∈ k, s.size ≤ 255) → (∀ s ∈ v, s.size ≤ 255) → n ≤ k.length → rdKeys true n ((k.zip v).flatMap pairB ++ X) = (k.take n, v.take n, ((k.drop n).zip (v.drop n)).flatMap pairB ++ X)
  | 0, k, v, X, _, _, _, _ => by simp [rdKeys]
  | n + 1, k, v, X, hl, hk, hv, hn => by
    have ih := rd_leaf n k v X hl hk hv (by omega)
    show keyStep true (rdKeys true n _) = _
    rw [ih]
    have e1 : k.drop n = k[n] :: k.drop (n + 1) := List.drop_eq_getElem_cons (by omega)
    have e2 : v.drop n = v[n] :: v.drop (n + 1) := List.drop_eq_getElem_cons (by omega)
    rw [e1, e2, List.zip_cons_cons, List.flatMap_cons]
    unfold keyStep
    have hkb := hk k[n] (List.getElem_mem _)
    have hvb := hv v[n] (List.getElem_mem _)
    have e3 : pairB (k[n], v[n]) = keyB k[n] ++ keyB v[n] := rfl
    rw [e3, if_pos rfl]
    dsimp only
    rw [List.append_assoc, List.append_assoc, strA_keyB hkb]
    dsimp only
    rw [strA_keyB hvb]
    dsimp only
    rw [List.take_add_one, List.take_add_one, List.getElem?_eq_getElem (by omega), List.getElem?_eq_getElem (by omega)]
    rfl
theorem rd_branch : ∀ (n : Nat) (k : List ByteArray) (X : List Int), (∀ s ∈ k, s.size ≤ 255) → n ≤ k.length → rdKeys false n (k.flatMap keyB ++ X) = (k.take n, [], (k.drop n).flatMap keyB ++ X)
  | 0, k, X, _, _ => by simp [rdKeys]
  | n + 1, k, X, hk, hn => by
    have ih := rd_branch n k X hk (by omega)
    show keyStep false (rdKeys false n _) = _
    rw [ih]
    have e1 : k.drop n = k[n] :: k.drop (n + 1) := List.drop_eq_getElem_cons (by omega)
    rw [e1, List.flatMap_cons]
    unfold keyStep
    have hkb := hk k[n] (List.getElem_mem _)
    rw [if_neg (by decide)]
    dsimp only
    rw [List.append_assoc, strA_keyB hkb, List.take_add_one, List.getElem?_eq_getElem (by omega)]
    rfl
theorem rd_kids : ∀ (n : Nat) (p : List PtrV) (X : List Int), Byt X → n ≤ p.length → rdKids n (p.flatMap ptrB ++ X) = (p.take n, (p.drop n).flatMap ptrB ++ X)
  | 0, p, X, _, _ => by simp [rdKids]
  | n + 1, p, X, hX, hn => by
    have ih := rd_kids n p X hX (by omega)
    show kidStep (rdKids n _) = _
    rw [ih]
    have e1 : p.drop n = p[n] :: p.drop (n + 1) := List.drop_eq_getElem_cons (by omega)
    rw [e1, List.flatMap_cons]
    unfold kidStep
    dsimp only
    rw [List.append_assoc, getA_ptrB _ _ (by
      intro z hz
      rcases List.mem_append.1 hz with hz | hz
      · exact flat_byt ptrB _ (fun q _ => ptrB_byt q) z hz
      · exact hX z hz), List.take_add_one, List.getElem?_eq_getElem (by omega)]
    rfl
/-- Whatever stands behind. -/
theorem told_node {n : NodeV} (h : checkN n = 0) (Z : List Int) (hZ : Byt Z) : toldN (nodeB n ++ Z) = n := by
  obtain ⟨hf, _⟩ := check_ok h
  have h255 := check_255 h
  obtain ⟨hk, hv⟩ := form_small hf
  have hk' : ∀ s ∈ n.ks, s.size ≤ 255 := fun s hs => Nat.le_trans (hk s hs) (by decide)
  have hv' : ∀ s ∈ n.vs, s.size ≤ 255 := fun s hs => Nat.le_trans (hv s hs) (by decide)
  have hc := form_counts hf
  obtain ⟨lf, ks, vs, ps⟩ := n
  cases lf with
  | true =>
    obtain ⟨h1, h2⟩ := counts_leaf rfl hc
    dsimp only at *
    subst h2
    have e0 : nodeB ⟨true, ks, vs, []⟩ ++ Z = 1 :: (ks.length : Int) :: ((ks.zip vs).flatMap pairB ++ Z) := rfl
    rw [e0]
    have r1 : restA (1 :: (ks.length : Int) :: ((ks.zip vs).flatMap pairB ++ Z)) = (ks.length : Int) :: ((ks.zip vs).flatMap pairB ++ Z) := by unfold restA; rw [numA_one, if_neg (by simp)]; rfl
    have r2 : restA ((ks.length : Int) :: ((ks.zip vs).flatMap pairB ++ Z)) = (ks.zip vs).flatMap pairB ++ Z := by unfold restA; rw [numA_one, if_neg (by simp)]; rfl
    have k1 : leafA (1 :: (ks.length : Int) :: ((ks.zip vs).flatMap pairB ++ Z)) = true := by unfold leafA kindA; rw [numA_one, if_neg (by simp)]; rfl
    have c1 : cntA (1 :: (ks.length : Int) :: ((ks.zip vs).flatMap pairB ++ Z)) = ks.length := by unfold cntA; rw [r1, numA_one, if_neg (by simp)]; simp
    unfold toldN
    rw [k1, c1, r1, r2, rd_leaf ks.length ks vs Z h1 hk' hv' (Nat.le_refl _)]
    dsimp only
    rw [List.take_length, show vs.take ks.length = vs by rw [← h1, List.take_length]]
    rfl
  | false =>
    obtain ⟨h0, h1, h2⟩ := counts_branch rfl hc
    dsimp only at *
    subst h1
    have e0 : nodeB ⟨false, ks, [], ps⟩ ++ Z = 2 :: (ks.length : Int) :: (ks.flatMap keyB ++ (ps.flatMap ptrB ++ Z)) := by
      show 2 :: (ks.length : Int) :: (ks.flatMap keyB ++ ps.flatMap ptrB) ++ Z = _
      simp
    rw [e0]
    generalize hX : ks.flatMap keyB ++ (ps.flatMap ptrB ++ Z) = X
    have r1 : restA (2 :: (ks.length : Int) :: X) = (ks.length : Int) :: X := by unfold restA; rw [numA_one, if_neg (by simp)]; rfl
    have r2 : restA ((ks.length : Int) :: X) = X := by unfold restA; rw [numA_one, if_neg (by simp)]; rfl
    have k1 : leafA (2 :: (ks.length : Int) :: X) = false := by unfold leafA kindA; rw [numA_one, if_neg (by simp)]; rfl
    have c1 : cntA (2 :: (ks.length : Int) :: X) = ks.length := by unfold cntA; rw [r1, numA_one, if_neg (by simp)]; simp
    unfold toldN
    rw [k1, c1, r1, r2, ← hX, rd_branch ks.length ks _ hk' (Nat.le_refl _)]
    dsimp only
    rw [if_neg (by decide), List.drop_length, List.flatMap_nil, List.nil_append, ← h2, rd_kids ps.length ps Z hZ (Nat.le_refl _)]
    simp
theorem nodeB_byt {n : NodeV} (h : checkN n = 0) : Byt (nodeB n) := by
  have h255 := check_255 h
  intro z hz
  unfold nodeB at hz
  split at hz
  · rcases List.mem_cons.1 hz with rfl | hz
    · omega
    · rcases List.mem_cons.1 hz with rfl | hz
      · omega
      · exact flat_byt pairB _ (fun q _ z hz => by
          rcases List.mem_append.1 hz with hz | hz
          · exact keyB_byt _ z hz
          · exact keyB_byt _ z hz) z hz
  · rcases List.mem_cons.1 hz with rfl | hz
    · omega
    · rcases List.mem_cons.1 hz with rfl | hz
      · omega
      · rcases List.mem_append.1 hz with hz | hz
        · exact flat_byt keyB _ (fun s _ => keyB_byt s) z hz
        · exact flat_byt ptrB _ (fun q _ => ptrB_byt q) z hz
theorem secB_length {n : NodeV} (h : checkN n = 0) : (secB n).length = 512 := by
  obtain ⟨hf, hz⟩ := check_ok h
  unfold secB
  rw [List.length_append, List.length_replicate, nodeB_length hf]
  omega
theorem get_sec {n : NodeV} (h : checkN n = 0) : getN (secB n) = (n, 0) := by
  have e : toldN (secB n) = n := told_node h _ (byt_zeros _)
  unfold getN
  rw [if_neg (by rw [secB_length h]; simp), e, if_pos ⟨h, rfl⟩]
/-! ### Same -/
def sameN (a b : NodeV) : Bool := (a.lf == b.lf) && decide (a.ks = b.ks) && decide (a.vs = b.vs) && decide (a.ps = b.ps)
theorem sameN_refl (a : NodeV) : sameN a a = true := by unfold sameN; simp
set_option maxRecDepth 100000 in
set_option maxHeartbeats 3200000 in
theorem nsame_any (k v p k' v' p' : Value) (a b : NodeV) (w : World) (ha : NR w k v p a) (hb : NR w k' v' p' b) (na : NB a) (nb : NB b) (pa : a.ps.length ≤ 1000000) (pb : b.ps.length ≤ 1000000) :
    Calls Try.prog 21 #[.agg #[.bool a.lf, k, v, p], .agg #[.bool b.lf, k', v', p']] w fun e w' => e = .returned (.bool (sameN a b)) ∧ Below w.heap.size w w' := by
  have two : ∀ (x y : Array Value), ∃ w1 w2 : World, w1 = w.alloc (.cells x 25) ∧ w2 = w1.alloc (.cells y 25) ∧ w1.heap.size = w.heap.size + 1 ∧ w2.heap[w.heap.size]? = some (.cells x 25 (0, 0)) ∧ w2.heap[w.heap.size + 1]? = some (.cells y 25 (0, 0)) ∧ Below w.heap.size w w2 ∧ w2.heap.size = w.heap.size + 2 := by
    intro x y
    have hb1 := (Below.refl w.heap.size w).alloc (Nat.le_refl _) (.cells x 25)
    have hs1 : (w.alloc (.cells x 25)).heap.size = w.heap.size + 1 := by simp
    refine ⟨_, _, rfl, rfl, hs1, (heap_alloc_old _ _ (by rw [hs1]; omega)).trans (heap_alloc_new w _), ?_, hb1.alloc hb1.size _, by simp⟩
    rw [← hs1]
    exact heap_alloc_new _ _
  obtain ⟨w1, w2, hw1, hw2, hs1, hA, hB, hb2, hs2⟩ := two #[.bool a.lf, k, v, p] #[.bool b.lf, k', v', p']
  have HK := Lib.hid (fun W (q : Below w2.heap.size w2 W) => seq_any W k k' a.ks b.ks ((ha.ks.below hb2).below q) ((hb.ks.below hb2).below q) na.kl nb.kl)
  have HV := Lib.hid (fun W (q : Below w2.heap.size w2 W) => seq_any W v v' a.vs b.vs ((ha.vs.below hb2).below q) ((hb.vs.below hb2).below q) na.vl nb.vl)
  have HP := Lib.hid (fun W (q : Below w2.heap.size w2 W) => peq_any W p p' a.ps b.ps ((ha.ps.below hb2).below q) ((hb.ps.below hb2).below q) pa pb)
  have HE := Lib.hid (show sameN a b = ((a.lf == b.lf) && decide (a.ks = b.ks) && decide (a.vs = b.vs) && decide (a.ps = b.ps)) from rfl)
  have HAT := Lib.hid (fun W (q : Below w2.heap.size w2 W) => (q.block w.heap.size (by omega)).trans hA)
  have HBT := Lib.hid (fun W (q : Below w2.heap.size w2 W) => (q.block (w.heap.size + 1) (by omega)).trans hB)
  have HBW := Lib.hid (show ∀ W, Below w2.heap.size w2 W → Below w.heap.size w W from fun W q => hb2.trans (q.mono hb2.size))
  rw [HE.out]
  generalize decide (a.ks = b.ks) = dk at *
  generalize decide (a.vs = b.vs) = dv at *
  generalize decide (a.ps = b.ps) = dp at *
  generalize a.lf = la at *
  generalize b.lf = lb at *
  clear ha hb na nb pa pb HE two hA hB hs2
  obtain ⟨a0, a1, a2, a3⟩ := node_at (HAT.out w2 (Below.refl _ _))
  obtain ⟨b0, b1, b2, b3⟩ := node_at (HBT.out w2 (Below.refl _ _))
  have HR2 := Lib.hid (Below.refl w2.heap.size w2)
  go_enter Try.func21, Try.ntmps21
  go_upto_region 1 with fail
  try simp only [← hw1, ← hw2]
  clear hw1 hw2 hs1 hb2
  cases hl : (la == lb) with
  | false =>
    have HL := Lib.hid hl
    go_wp2_with fail
    go_ret
    rw [HL.out]
    exact ⟨rfl, HBW.out _ HR2.out⟩
  | true =>
    have HL := Lib.hid hl
    go_wp2_with fail
    refine (HK.out w2 HR2.out).mono ?_
    rintro e w3 ⟨rfl, hb3⟩
    have HB3 := Lib.hid hb3
    obtain ⟨_, _, d2, _⟩ := node_at (HAT.out w3 hb3)
    obtain ⟨_, _, e2, _⟩ := node_at (HBT.out w3 hb3)
    clear hb3 HK a0 a1 a2 a3 b0 b1 b2 b3
    cases dk with
    | false =>
      go_wp2_with fail
      go_ret
      rw [HL.out]
      exact ⟨rfl, HBW.out _ HB3.out⟩
    | true =>
      go_wp2_with fail
      refine (HV.out w3 HB3.out).mono ?_
      rintro e w4 ⟨rfl, hb4⟩
      have hq := HB3.out.trans (hb4.mono HB3.out.size)
      have HB4 := Lib.hid hq
      obtain ⟨_, _, _, d3⟩ := node_at (HAT.out w4 hq)
      obtain ⟨_, _, _, e3⟩ := node_at (HBT.out w4 hq)
      clear hb4 hq HV HB3 d2 e2
      cases dv with
      | false =>
        go_wp2_with fail
        go_ret
        rw [HL.out]
        exact ⟨rfl, HBW.out _ HB4.out⟩
      | true =>
        go_wp2_with fail
        refine (HP.out w4 HB4.out).mono ?_
        rintro e w5 ⟨rfl, hb5⟩
        have HB5 := Lib.hid (HB4.out.trans (hb5.mono HB4.out.size))
        clear hb5 HP HB4 d3 e3
        cases dp <;>
        · go_wp2_with fail
          go_ret
          rw [HL.out]
          exact ⟨rfl, HBW.out _ HB5.out⟩
end Go.Proofs.Ytcgddhainmnebaa
