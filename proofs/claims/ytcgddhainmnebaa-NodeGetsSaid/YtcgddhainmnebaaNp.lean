/-
  A node as bytes; the program's kindOf and Put.
-/
import Derived.Test.YtcgddhainmnebaaFs
namespace Go.Proofs.Ytcgddhainmnebaa
set_option maxRecDepth 4000
set_option linter.unusedVariables false
open Go.ChangeShapes Go.WideShapes Go.ChangeAt Go.RowKit

def pairB (q : ByteArray × ByteArray) : List Int := (strW q.1).1 ++ (strW q.2).1
def keyB (s : ByteArray) : List Int := (strW s).1
/-- A node's bytes ahead of the noughts. -/
def nodeB (n : NodeV) : List Int := if n.lf then (1 :: (n.ks.length : Int) :: (n.ks.zip n.vs).flatMap pairB) else (2 :: (n.ks.length : Int) :: (n.ks.flatMap keyB ++ n.ps.flatMap ptrB))
def secB (n : NodeV) : List Int := nodeB n ++ List.replicate (512 - (nodeB n).length) 0
def sectL (n : NodeV) : List Int := if checkN n = 0 then secB n else []
theorem keyB_length (s : ByteArray) : (keyB s).length ≤ 256 := by
  unfold keyB strW
  split
  · simp
  · simp only [List.length_cons, btxt_length]; omega
theorem keyB_byt (s : ByteArray) : Byt (keyB s) := by
  unfold keyB strW
  split
  · intro z hz; simp at hz
  · intro z hz
    rcases List.mem_cons.1 hz with rfl | hz
    · omega
    · exact btxt_byt s z hz
theorem keyB_small {s : ByteArray} (h : s.size ≤ 255) : keyB s = (s.size : Int) :: btxt s := by
  unfold keyB strW
  rw [if_neg (by omega)]
theorem keyB_len {s : ByteArray} (h : s.size ≤ 255) : (keyB s).length = 1 + s.size := by
  rw [keyB_small h, List.length_cons, btxt_length]; omega
theorem flat_length {α : Type} (f : α → List Int) (k : Nat) : ∀ l : List α, (∀ x ∈ l, (f x).length ≤ k) → (l.flatMap f).length ≤ l.length * k
  | [], _ => by simp
  | x :: l, h => by
    have h1 := h x (by simp)
    have h2 := flat_length f k l (fun y hy => h y (by simp [hy]))
    rw [List.flatMap_cons, List.length_append, List.length_cons, Nat.add_mul]
    omega
theorem flat_byt {α : Type} (f : α → List Int) (l : List α) (h : ∀ x ∈ l, Byt (f x)) : Byt (l.flatMap f) := by
  intro z hz
  obtain ⟨x, hx, hz⟩ := List.mem_flatMap.1 hz
  exact h x hx z hz
theorem flat_step {α : Type} (f : α → List Int) (l : List α) (i : Nat) (x : α) (h : l[i]? = some x) : (l.take (i + 1)).flatMap f = (l.take i).flatMap f ++ f x := by
  rw [List.take_add_one, h, List.flatMap_append]
  simp
theorem pairB_length (q : ByteArray × ByteArray) : (pairB q).length ≤ 512 := by
  have h1 := keyB_length q.1
  have h2 := keyB_length q.2
  unfold pairB
  unfold keyB at h1 h2
  rw [List.length_append]
  omega
theorem len_keys : ∀ l : List ByteArray, (∀ s ∈ l, s.size ≤ 96) → (l.flatMap keyB).length = txs l
  | [], _ => rfl
  | s :: l, h => by
    rw [List.flatMap_cons, List.length_append, keyB_len (Nat.le_trans (h s (by simp)) (by decide)), len_keys l (fun t ht => h t (by simp [ht])), txs]
theorem len_pairs : ∀ (k v : List ByteArray), v.length = k.length → (∀ s ∈ k, s.size ≤ 96) → (∀ s ∈ v, s.size ≤ 96) → ((k.zip v).flatMap pairB).length = txs k + txs v
  | [], [], _, _, _ => rfl
  | [], _ :: _, h, _, _ => by simp at h
  | _ :: _, [], h, _, _ => by simp at h
  | a :: k, b :: v, h, hk, hv => by
    have ih := len_pairs k v (by simpa using h) (fun t ht => hk t (by simp [ht])) (fun t ht => hv t (by simp [ht]))
    have h1 := keyB_len (s := a) (Nat.le_trans (hk a (by simp)) (by decide))
    have h2 := keyB_len (s := b) (Nat.le_trans (hv b (by simp)) (by decide))
    unfold keyB at h1 h2
    rw [List.zip_cons_cons, List.flatMap_cons, List.length_append, ih]
    unfold pairB
    rw [List.length_append, h1, h2]
    simp only [txs]
    omega
theorem len_kids : ∀ l : List PtrV, (l.flatMap ptrB).length = 44 * l.length
  | [] => rfl
  | q :: l => by rw [List.flatMap_cons, List.length_append, ptrB_length, len_kids l, List.length_cons]; omega
theorem counts_leaf {n : NodeV} (hl : n.lf = true) (h : countsB n = true) : n.vs.length = n.ks.length ∧ n.ps = [] := by
  unfold countsB at h
  rw [if_pos hl] at h
  simp only [Bool.and_eq_true, decide_eq_true_eq] at h
  exact ⟨h.1, List.length_eq_zero_iff.1 h.2⟩
theorem counts_branch {n : NodeV} (hl : n.lf = false) (h : countsB n = true) : 0 < n.ks.length ∧ n.vs = [] ∧ n.ps.length = n.ks.length + 1 := by
  unfold countsB at h
  rw [hl] at h
  simp only [Bool.false_eq_true, if_false, Bool.and_eq_true, decide_eq_true_eq] at h
  exact ⟨h.1.1, List.length_eq_zero_iff.1 h.1.2, h.2⟩
theorem form_counts {n : NodeV} (h : formB n = true) : countsB n = true := by
  unfold formB at h
  simp only [Bool.and_eq_true] at h
  exact h.1.1.1
theorem nodeB_length {n : NodeV} (h : formB n = true) : (nodeB n).length = sizeN n := by
  obtain ⟨hk, hv⟩ := form_small h
  have hk' : ∀ s ∈ n.ks, s.size ≤ 96 := fun s hs => Nat.le_trans (hk s hs) (by decide)
  have hc := form_counts h
  unfold nodeB sizeN
  cases hl : n.lf with
  | true =>
    obtain ⟨h1, h2⟩ := counts_leaf hl hc
    rw [if_pos rfl, List.length_cons, List.length_cons, len_pairs _ _ h1 hk' hv, h2]
    simp; omega
  | false =>
    obtain ⟨_, h2, h3⟩ := counts_branch hl hc
    rw [if_neg (by decide), List.length_cons, List.length_cons, List.length_append, len_keys _ hk', len_kids, h2]
    simp [txs]; omega
theorem check_ok {n : NodeV} (h : checkN n = 0) : formB n = true ∧ sizeN n ≤ 512 := by
  unfold checkN at h
  cases hf : formB n with
  | false => rw [hf] at h; simp at h
  | true =>
    rw [hf] at h
    simp only [if_true] at h
    split at h
    · exact ⟨rfl, by assumption⟩
    · cases h
theorem txs_len : ∀ l : List ByteArray, l.length ≤ txs l
  | [] => Nat.le_refl _
  | s :: l => by have := txs_len l; simp only [txs, List.length_cons]; omega
theorem check_few {n : NodeV} (h : checkN n = 0) : n.ks.length ≤ 510 ∧ n.ps.length ≤ 11 := by
  obtain ⟨_, h2⟩ := check_ok h
  have h3 := txs_len n.ks
  unfold sizeN at h2
  omega
theorem rises_pos : ∀ (a : ByteArray) (l : List ByteArray), risesFrom a l = true → ∀ s ∈ l, lo ⟨#[]⟩ s = true
  | _, [], _, s, hs => by simp at hs
  | a, k :: r, h, s, hs => by
    unfold risesFrom at h
    simp only [Bool.and_eq_true, decide_eq_true_eq] at h
    rcases List.mem_cons.1 hs with rfl | hs
    · rcases lo_tri ⟨#[]⟩ s with e | e | e
      · exact e
      · rw [← e, lo_lt, decide_eq_true_iff] at h
        exact absurd h.1.1 (by simp [Lib.toList_data, List.not_lt_nil])
      · rw [lo_lt, decide_eq_true_iff] at e
        exact absurd e (by simp [Lib.toList_data, List.not_lt_nil])
    · exact rises_pos k r h.2 s hs
theorem lo_pos {s : ByteArray} (h : lo ⟨#[]⟩ s = true) : 1 ≤ s.size := by
  rcases Nat.eq_zero_or_pos s.size with e | e
  · have : s = ⟨#[]⟩ := ByteArray.ext (Array.eq_empty_of_size_eq_zero e)
    rw [this, lo_irr] at h
    cases h
  · exact e
theorem txs_two : ∀ l : List ByteArray, (∀ s ∈ l, 1 ≤ s.size) → 2 * l.length ≤ txs l
  | [], _ => Nat.le_refl _
  | s :: l, h => by
    have := txs_two l (fun t ht => h t (by simp [ht]))
    have := h s (by simp)
    simp only [txs, List.length_cons]
    omega
/-- Keys that rise have a byte each: there are no more than a byte counts. -/
theorem check_255 {n : NodeV} (h : checkN n = 0) : n.ks.length ≤ 255 := by
  obtain ⟨h1, h2⟩ := check_ok h
  unfold formB at h1
  simp only [Bool.and_eq_true] at h1
  have h3 := txs_two n.ks (fun s hs => lo_pos (rises_pos _ _ h1.1.1.2 s hs))
  unfold sizeN at h2
  omega
set_option maxRecDepth 100000 in
set_option maxHeartbeats 1600000 in
theorem nkind_any (k v p : Value) (lf : Bool) (w : World) :
    Calls Try.prog 40 #[.agg #[.bool lf, k, v, p]] w fun e w' => e = .returned (.int .u8 (if lf then 1 else 2)) ∧ Below w.heap.size w w' := by
  have HB1 := Lib.hid ((Below.refl w.heap.size w).alloc (Nat.le_refl _) (.cells #[.bool lf, k, v, p] 25))
  obtain ⟨c0, _, _, _⟩ := node_at (heap_alloc_new w (.cells #[.bool lf, k, v, p] 25))
  cases lf with
  | true =>
    go_enter Try.func40, Try.ntmps40
    go_wp2_with fail
    go_ret
    exact ⟨rfl, HB1.out⟩
  | false =>
    go_enter Try.func40, Try.ntmps40
    go_wp2_with fail
    go_ret
    exact ⟨rfl, HB1.out⟩
theorem WL.more {w0 w : World} {P : Nat} {l m : List Int} (h : WL w0 w P l) (e : l = m) : WL w0 w P m := e ▸ h
set_option maxRecDepth 100000 in
set_option maxHeartbeats 3200000 in
theorem nput_true (k v p : Value) (l m : List ByteArray) (q : List PtrV) (w : World) (h : NR w k v p ⟨true, l, m, q⟩) (hn : NB ⟨true, l, m, q⟩) (hc : checkN ⟨true, l, m, q⟩ = 0) :
    Calls Try.prog 14 #[.agg #[.bool true, k, v, p]] w fun e w' => ∃ a c, e = .returned (.tuple #[.slice a 512 c, .int .i64 0]) ∧ 512 ≤ c ∧ BS w' (.slice a 512 c) (secB ⟨true, l, m, q⟩) ∧ Below w.heap.size w w' := by
  obtain ⟨hf, hz⟩ := check_ok hc
  have hlen := nodeB_length hf
  have h255 := check_255 hc
  obtain ⟨_, h11⟩ := check_few hc
  have hcn := form_counts hf
  have HCK := Lib.hid (fun W (b : Below w.heap.size w W) => ncheck_any k v p ⟨true, l, m, q⟩ W (h.below b) hn)
  have HKD := Lib.hid (fun W => nkind_any k v p true W)
  rw [hc] at HCK
  obtain ⟨ak, ck, rfl, _, hk⟩ := h.ks
  obtain ⟨av, cv, rfl, _, hv⟩ := h.vs
  obtain ⟨ap, cp, rfl, hp⟩ := h.ps
  obtain ⟨hcl, hq0⟩ := counts_leaf rfl hcn
  dsimp only at hcl hq0
  have HCL := Lib.hid hcl
  have HQ0 := Lib.hid hq0
  clear hcl hq0
  have hsec : secB ⟨true, l, m, q⟩ = (1 :: (l.length : Int) :: (l.zip m).flatMap pairB) ++ List.replicate (512 - ((1 :: (l.length : Int) :: (l.zip m).flatMap pairB)).length) 0 := rfl
  have hnb : ((1 :: (l.length : Int) :: (l.zip m).flatMap pairB)).length ≤ 512 := by have e : nodeB ⟨true, l, m, q⟩ = (1 :: (l.length : Int) :: (l.zip m).flatMap pairB) := rfl; rw [← e, hlen]; exact hz
  have hkz := hn.kz
  have hvz := hn.vz
  dsimp only at *
  have HK := Lib.hid hk
  have HV := Lib.hid hv
  have HP := Lib.hid hp
  have HSEC := Lib.hid hsec
  have HNB := Lib.hid hnb
  have HKZ := Lib.hid hkz
  have HVZ := Lib.hid hvz
  have HBX := Lib.hid (fun i => show (((l.zip m).take i).flatMap pairB).length ≤ i * 512 from Nat.le_trans (flat_length _ 512 _ (fun x _ => pairB_length x)) (Nat.mul_le_mul_right _ (by rw [List.length_take]; omega)))
  have HBK := Lib.hid (fun i => show ((q.take i).flatMap ptrB).length ≤ i * 44 from Nat.le_trans (flat_length _ 44 _ (fun x _ => by rw [ptrB_length]; exact Nat.le_refl _)) (Nat.mul_le_mul_right _ (by rw [List.length_take]; omega)))
  have HBT := Lib.hid (show ((l.zip m).flatMap pairB).length ≤ 512 by have := hnb; simp only [List.length_cons] at this; omega)
  have HTK := Lib.hid (show ∀ i, l.length ≤ i → ((l.zip m).take i).flatMap pairB = (l.zip m).flatMap pairB from fun i hi => by rw [List.take_of_length_le (by first | exact hi | (simp; omega))])
  have HTP := Lib.hid (show ∀ i, q.length ≤ i → (q.take i).flatMap ptrB = q.flatMap ptrB from fun i hi => by rw [List.take_of_length_le hi])
  clear h hn hc hf hz hlen hcn hk hv hp hsec hnb hkz hvz
  obtain ⟨N, hN⟩ : ∃ N, l.length = N := ⟨_, rfl⟩
  obtain ⟨V, hV⟩ : ∃ V, m.length = V := ⟨_, rfl⟩
  obtain ⟨M, hM⟩ : ∃ M, q.length = M := ⟨_, rfl⟩
  have HN := Lib.hid hN
  have HVL := Lib.hid hV
  have HM := Lib.hid hM
  rw [hN] at HCK HKD h255 HTK HSEC HNB ⊢
  rw [hV] at HCK HKD ⊢
  rw [hM] at HCK HKD h11 HTP ⊢
  have NI : (N : Int) ≤ 255 := by omega
  have N0 : (0 : Int) ≤ (N : Int) := by omega
  have MI : (M : Int) ≤ 11 := by omega
  have M0 : (0 : Int) ≤ (M : Int) := by omega
  have HN9 := Lib.hid (And.intro h255 h11)
  clear hN hV hM h255 h11
  have hb1 := (Below.refl w.heap.size w).alloc (Nat.le_refl _) (.cells #[.bool true, .slice ak N ck, .slice av V cv, .slice ap M cp] 25)
  have hA1 := heap_alloc_new w (.cells #[.bool true, .slice ak N ck, .slice av V cv, .slice ap M cp] 25)
  have SE := Lib.hid (size_node true (.slice ak N ck) (.slice av V cv) (.slice ap M cp))
  have hs1 : (w.alloc (.cells #[.bool true, .slice ak N ck, .slice av V cv, .slice ap M cp] 25)).heap.size = w.heap.size + 1 := by simp
  generalize hw1 : w.alloc (.cells #[.bool true, .slice ak N ck, .slice av V cv, .slice ap M cp] 25) = w1 at *
  have HAT := Lib.hid (fun W (b : Below w1.heap.size w1 W) => (b.block w.heap.size (by omega)).trans hA1)
  have HBW := Lib.hid (show ∀ W, Below w1.heap.size w1 W → Below w.heap.size w W from fun W b => hb1.trans (b.mono (by omega)))
  have HB1 := Lib.hid hb1
  have HA1 := Lib.hid hA1
  have HS1 := Lib.hid hs1
  clear hb1 hA1 hs1
  go_enter Try.func14, Try.ntmps14
  go_upto_region 1 with fail
  try rw [hw1]
  clear hw1
  go_wp2_with (first
    | (with_reducible refine wpList_load_row (o := ⟨some 10, _, _, _, _, _⟩) rfl 25 _ rfl w.heap.size rfl 25 #[.bool true, .slice ak N ck, .slice av V cv, .slice ap M cp] (0, 0) _ HA1.out Try.underlying25 rfl SE.out ?_))
  refine (HCK.out w1 HB1.out).mono ?_
  rintro e w2 ⟨rfl, hb2⟩
  have HWL := Lib.hid (wl_new (w0 := w1) (w1 := w2) hb2)
  have HB2 := Lib.hid hb2
  obtain ⟨P, hP⟩ : ∃ P, w2.heap.size = P := ⟨_, rfl⟩
  have HA2 := Lib.hid (HAT.out _ HWL.out.bel)
  have hz := zero_writer
  clear hb2 HA1 HCK
  rw [hP] at HWL
  go_upto_region 5 with fail
  try simp only [hP]
  generalize hw3 : w2.alloc _ = w3 at *
  clear hP hw3 hz
  go_wp2_with (first
    | (with_reducible refine wpList_load_row (o := ⟨some 15, _, _, _, _, _⟩) rfl 25 _ rfl w.heap.size rfl 25 #[.bool true, .slice ak N ck, .slice av V cv, .slice ap M cp] (0, 0) _ HA2.out Try.underlying25 rfl SE.out ?_))
  refine (HKD.out _).mono ?_
  rintro e w4 ⟨rfl, hb4⟩
  have HW4 := Lib.hid (wl_num w1 w4 P [] 1 1 (HWL.out.below hb4) (by decide) (by simp))
  rw [show numW 1 1 = ([1], 0) by decide] at HW4
  clear hb4 HWL HA2 HKD
  try simp only [if_true]
  go_wp2_with fail
  refine HW4.out.mono ?_
  rintro e w5 ⟨rfl, h5⟩
  have HW5 := Lib.hid (wl_num w1 w5 P _ (N : Int) 1 h5 (by omega) (by simp))
  rw [show numW (N : Int) 1 = ([(N : Int)], 0) from numW_one N (by have := HN9.out; omega)] at HW5
  have c1 := (node_at (HAT.out w5 h5.bel)).2.1
  have x1 : IntKind.u64.wrap (N : Int) = (N : Int) := IntWalk.u64_in _ (by omega)
  clear h5 HW4
  go_wp2_with fail
  refine HW5.out.mono ?_
  rintro e w6 ⟨rfl, h6⟩
  have HW6 := Lib.hid h6
  have c1' := (node_at (HAT.out w6 h6.bel)).2.1
  clear h6 HW5 c1 x1
  go_wp2_with fail
  clear c1'
  go_loopw [6, 7, 27] (fun _ _ v27 wr => ∃ i : Nat, i ≤ N ∧ v27 = .int .i64 (i : Int) ∧ WL w1 wr P ([1, (N : Int)] ++ ((l.zip m).take i).flatMap pairB)) (fun _ _ v _ => N - (intOf v).toNat)
  case atStart => exact ⟨0, by omega, rfl, HW6.out.more (by simp)⟩
  case round =>
    clear HW6
    obtain ⟨i, hi, rfl, hW⟩ := hrel
    by_cases hlt : i < N
    · obtain ⟨x, hx⟩ : ∃ x, l[i]? = some x := ⟨_, List.getElem?_eq_getElem (by have := HN.out; omega)⟩
      obtain ⟨b1, o1, rfl, g1⟩ := HK.out i x hx
      have hix := index_sl b1 o1 N ck i hlt
      have g1' := ((HBW.out _ hW.bel).cell (p := ⟨b1, o1 + i, none⟩) (block_lt_of_cell g1)).trans g1
      have HST := Lib.hid (wl_str w1 wr P _ x hW (HKZ.out x (List.mem_of_getElem? hx)) (by have := HBX.out i; have := HN9.out; simp only [List.length_append, List.length_cons, List.length_nil]; omega))
      obtain ⟨y, hy⟩ : ∃ y, m[i]? = some y := ⟨_, List.getElem?_eq_getElem (by have := HN.out; have := HCL.out; omega)⟩
      obtain ⟨b2, o2, rfl, g2⟩ := HV.out i y hy
      have hix2 := index_sl b2 o2 V cv i (by have := HN.out; have := HCL.out; have := HVL.out; omega)
      have HG2 := Lib.hid g2
      have HNX := Lib.hid (show ((l.zip m).take (i + 1)).flatMap pairB = ((l.zip m).take i).flatMap pairB ++ ((strW x).1 ++ (strW y).1) from flat_step pairB (l.zip m) i (x, y) (by rw [List.getElem?_zip_eq_some]; exact ⟨hx, hy⟩))
      have HYZ := Lib.hid (HVZ.out y (List.mem_of_getElem? hy))
      have vI : (i : Int) < (V : Int) := by have := HN.out; have := HCL.out; have := HVL.out; omega
      have HXL := Lib.hid (keyB_length x)
      clear hy g2
      have HLT := Lib.hid hlt
      have iI : (i : Int) < (N : Int) := by omega
      have i0 : (0 : Int) ≤ (i : Int) := by omega
      clear hi hlt hx hW g1
      go_wp2_with fail
      refine HST.out.mono ?_
      rintro e w7 ⟨rfl, h7⟩
      obtain ⟨c0, _, c2, _⟩ := node_at (HAT.out w7 h7.bel)
      have g2' := ((HBW.out _ h7.bel).cell (p := ⟨b2, o2 + i, none⟩) (block_lt_of_cell HG2.out)).trans HG2.out
      have HST2 := Lib.hid (wl_str w1 w7 P _ y h7 HYZ.out (by have := HBX.out i; have := HN9.out; have := HXL.out; unfold keyB at this; simp only [List.length_append, List.length_cons, List.length_nil]; omega))
      clear h7 HST hix
      go_wp2_with fail
      refine HST2.out.mono ?_
      rintro e w8 ⟨rfl, h8⟩
      have H8 := Lib.hid h8
      clear h8 HST2 c0 c2 g2'
      go_wp2_with fail
      go_roundw
      case rel => exact ⟨i + 1, by have := HLT.out; omega, by go_num, H8.out.more (by rw [HNX.out]; simp only [List.append_assoc])⟩
      case measure => simp [intOf]; have := HLT.out; omega
    · obtain rfl : i = N := by omega
      rw [HTK.out i (Nat.le_refl _)] at hW
      have HW := Lib.hid hW
      obtain ⟨c0, _, _, c3⟩ := node_at (HAT.out wr hW.bel)
      clear hi hlt hW HTK HBX
      go_wp2_with fail
      clear c0 c3
      go_loopw [46] (fun v46 wr => ∃ j : Nat, j ≤ M ∧ v46 = .int .i64 (j : Int) ∧ WL w1 wr P (([1, (i : Int)] ++ (l.zip m).flatMap pairB) ++ (q.take j).flatMap ptrB)) (fun v _ => M - (intOf v).toNat)
      case atStart => exact ⟨0, by omega, rfl, HW.out.more (by simp)⟩
      case round =>
        clear HW
        obtain ⟨j, hj, rfl, hW⟩ := hrel
        by_cases hlt : j < M
        · obtain ⟨x, hx⟩ : ∃ x, q[j]? = some x := ⟨_, List.getElem?_eq_getElem (by have := HM.out; omega)⟩
          obtain ⟨b1, o1, rfl, g1⟩ := HP.out j x hx
          have hix := index_ptr b1 o1 M cp j hlt
          have HRG := Lib.hid (range_below g1 (HBW.out _ hW.bel))
          have HNX := Lib.hid (flat_step ptrB q j x hx)
          have HLT := Lib.hid hlt
          have iI : (j : Int) < (M : Int) := by omega
          have i0 : (0 : Int) ≤ (j : Int) := by omega
          have SWC := Lib.hid (size_ptr x)
          have SWR := Lib.hid (size_ptrA x)
          have EW := Lib.hid (show (ptrRow zeroPtr).toArray.size = (ptrRow x).toArray.size by simp [ptrRow_length])
          have WO := Lib.hid (ptrRow_one x)
          have hzp := zero_ptr
          obtain ⟨ZA, hZA⟩ : ∃ ZA, (ptrRow zeroPtr).toArray = ZA := ⟨_, rfl⟩
          rw [hZA] at hzp EW
          have HPT := Lib.hid (fun W (hW : WL w1 W P (([1, (i : Int)] ++ (l.zip m).flatMap pairB) ++ (q.take j).flatMap ptrB)) => wl_ptr w1 W P _ x hW (by have := HBK.out j; have := HN9.out; have := HBT.out; simp only [List.length_append, List.length_cons, List.length_nil]; omega))
          have HW := Lib.hid hW
          clear hj hlt hx hW g1 hZA
          go_upto_region 17 with (first
            | (with_reducible refine wpList_load_mid (op := ⟨some 49, _, _, _, _, _⟩) rfl 57 _ rfl b1 (o1 + j * 34) rfl (ptrRow x) _ HRG.out Try.underlying57 rfl SWC.out ?_)
            | (with_reducible refine wpList_store_row (o := ⟨none, .store _ (.tmp 9) _, _, _, _, _⟩) rfl 57 _ _ rfl wr.heap.size (ptrRow x).toArray rfl rfl 57 ZA (heap_alloc_new wr _) SWR.out EW.out WO.out ?_))
          clear hix hzp
          obtain ⟨h7, hb7⟩ := new_row8 wr ZA (ptrRow x).toArray
          generalize World.setRow _ wr.heap.size _ = w7 at *
          have H7 := Lib.hid h7
          have HPT7 := Lib.hid (HPT.out w7 (HW.out.below hb7))
          clear h7 hb7 HPT HW HRG SWC EW WO
          generalize (ptrRow x).toArray = AR at *
          go_wp2_with (first
            | (with_reducible refine wpList_load_row (o := ⟨some 50, _, _, _, _, _⟩) rfl 57 _ rfl wr.heap.size rfl 57 AR (0, 0) _ H7.out Try.underlying57 rfl SWR.out ?_))
          refine HPT7.out.mono ?_
          rintro e w8 ⟨rfl, h8⟩
          have H8 := Lib.hid h8
          clear h8 HPT7 H7
          go_wp2_with fail
          go_roundw
          case rel => exact ⟨j + 1, by have := HLT.out; omega, by go_num, H8.out.more (by rw [HNX.out, List.append_assoc])⟩
          case measure => simp [intOf]; have := HLT.out; omega
        · obtain rfl : j = M := by omega
          rw [HTP.out j (Nat.le_refl _)] at hW
          have hW' := hW.more (m := (1 :: (i : Int) :: (l.zip m).flatMap pairB)) (by rw [HQ0.out]; simp)
          have HPD := Lib.hid (wl_pad w1 wr P _ 512 hW' (by have := HNB.out; omega))
          rw [show padW ((1 :: (i : Int) :: (l.zip m).flatMap pairB)).length 512 = (List.replicate (512 - ((1 :: (i : Int) :: (l.zip m).flatMap pairB)).length) 0, 0) by unfold padW; rw [if_neg (by have := HNB.out; omega)]; rfl] at HPD
          clear hj hlt hW hW'
          go_wp2_with fail
          refine HPD.out.mono ?_
          rintro e w9 ⟨rfl, h9⟩
          rw [← HSEC.out] at h9
          have HBY := Lib.hid (wl_bytes w1 w9 P _ h9 (by rw [show (secB ⟨true, l, m, q⟩).length = 512 by rw [HSEC.out, List.length_append, List.length_replicate]; have := HNB.out; omega]; decide))
          rw [show (secB ⟨true, l, m, q⟩).length = 512 by rw [HSEC.out, List.length_append, List.length_replicate]; have := HNB.out; omega] at HBY
          have H9 := Lib.hid h9
          clear h9 HPD
          go_wp2_with fail
          refine HBY.out.mono ?_
          rintro e w10 ⟨a, c, rfl, hc, hbs, hwl, hb10⟩
          have HF := Lib.hid (And.intro hc (And.intro hbs (HBW.out _ hwl.bel)))
          clear hc hbs hwl hb10 HBY H9
          go_wp2_with fail
          go_ret2
          exact ⟨a, c, rfl, HF.out.1, HF.out.2.1, HF.out.2.2⟩
set_option maxRecDepth 100000 in
set_option maxHeartbeats 3200000 in
theorem nput_false (k v p : Value) (l m : List ByteArray) (q : List PtrV) (w : World) (h : NR w k v p ⟨false, l, m, q⟩) (hn : NB ⟨false, l, m, q⟩) (hc : checkN ⟨false, l, m, q⟩ = 0) :
    Calls Try.prog 14 #[.agg #[.bool false, k, v, p]] w fun e w' => ∃ a c, e = .returned (.tuple #[.slice a 512 c, .int .i64 0]) ∧ 512 ≤ c ∧ BS w' (.slice a 512 c) (secB ⟨false, l, m, q⟩) ∧ Below w.heap.size w w' := by
  obtain ⟨hf, hz⟩ := check_ok hc
  have hlen := nodeB_length hf
  have h255 := check_255 hc
  obtain ⟨_, h11⟩ := check_few hc
  have hcn := form_counts hf
  have HCK := Lib.hid (fun W (b : Below w.heap.size w W) => ncheck_any k v p ⟨false, l, m, q⟩ W (h.below b) hn)
  have HKD := Lib.hid (fun W => nkind_any k v p false W)
  rw [hc] at HCK
  obtain ⟨ak, ck, rfl, _, hk⟩ := h.ks
  obtain ⟨av, cv, rfl, _, hv⟩ := h.vs
  obtain ⟨ap, cp, rfl, hp⟩ := h.ps
  obtain ⟨hcl, hq0, _⟩ := counts_branch rfl hcn
  dsimp only at hcl hq0
  clear hcl hq0
  have hsec : secB ⟨false, l, m, q⟩ = (2 :: (l.length : Int) :: (l.flatMap keyB ++ q.flatMap ptrB)) ++ List.replicate (512 - ((2 :: (l.length : Int) :: (l.flatMap keyB ++ q.flatMap ptrB))).length) 0 := rfl
  have hnb : ((2 :: (l.length : Int) :: (l.flatMap keyB ++ q.flatMap ptrB))).length ≤ 512 := by have e : nodeB ⟨false, l, m, q⟩ = (2 :: (l.length : Int) :: (l.flatMap keyB ++ q.flatMap ptrB)) := rfl; rw [← e, hlen]; exact hz
  have hkz := hn.kz
  have hvz := hn.vz
  dsimp only at *
  have HK := Lib.hid hk
  have HV := Lib.hid hv
  have HP := Lib.hid hp
  have HSEC := Lib.hid hsec
  have HNB := Lib.hid hnb
  have HKZ := Lib.hid hkz
  have HVZ := Lib.hid hvz
  have HBX := Lib.hid (fun i => show ((l.take i).flatMap keyB).length ≤ i * 512 from Nat.le_trans (flat_length _ 512 _ (fun x _ => Nat.le_trans (keyB_length x) (by decide))) (Nat.mul_le_mul_right _ (by rw [List.length_take]; omega)))
  have HBK := Lib.hid (fun i => show ((q.take i).flatMap ptrB).length ≤ i * 44 from Nat.le_trans (flat_length _ 44 _ (fun x _ => by rw [ptrB_length]; exact Nat.le_refl _)) (Nat.mul_le_mul_right _ (by rw [List.length_take]; omega)))
  have HBT := Lib.hid (show (l.flatMap keyB).length ≤ 512 by have := hnb; simp only [List.length_cons, List.length_append] at this; omega)
  have HTK := Lib.hid (show ∀ i, l.length ≤ i → (l.take i).flatMap keyB = l.flatMap keyB from fun i hi => by rw [List.take_of_length_le (by first | exact hi | (simp; omega))])
  have HTP := Lib.hid (show ∀ i, q.length ≤ i → (q.take i).flatMap ptrB = q.flatMap ptrB from fun i hi => by rw [List.take_of_length_le hi])
  clear h hn hc hf hz hlen hcn hk hv hp hsec hnb hkz hvz
  obtain ⟨N, hN⟩ : ∃ N, l.length = N := ⟨_, rfl⟩
  obtain ⟨V, hV⟩ : ∃ V, m.length = V := ⟨_, rfl⟩
  obtain ⟨M, hM⟩ : ∃ M, q.length = M := ⟨_, rfl⟩
  have HN := Lib.hid hN
  have HVL := Lib.hid hV
  have HM := Lib.hid hM
  rw [hN] at HCK HKD h255 HTK HSEC HNB ⊢
  rw [hV] at HCK HKD ⊢
  rw [hM] at HCK HKD h11 HTP ⊢
  have NI : (N : Int) ≤ 255 := by omega
  have N0 : (0 : Int) ≤ (N : Int) := by omega
  have MI : (M : Int) ≤ 11 := by omega
  have M0 : (0 : Int) ≤ (M : Int) := by omega
  have HN9 := Lib.hid (And.intro h255 h11)
  clear hN hV hM h255 h11
  have hb1 := (Below.refl w.heap.size w).alloc (Nat.le_refl _) (.cells #[.bool false, .slice ak N ck, .slice av V cv, .slice ap M cp] 25)
  have hA1 := heap_alloc_new w (.cells #[.bool false, .slice ak N ck, .slice av V cv, .slice ap M cp] 25)
  have SE := Lib.hid (size_node false (.slice ak N ck) (.slice av V cv) (.slice ap M cp))
  have hs1 : (w.alloc (.cells #[.bool false, .slice ak N ck, .slice av V cv, .slice ap M cp] 25)).heap.size = w.heap.size + 1 := by simp
  generalize hw1 : w.alloc (.cells #[.bool false, .slice ak N ck, .slice av V cv, .slice ap M cp] 25) = w1 at *
  have HAT := Lib.hid (fun W (b : Below w1.heap.size w1 W) => (b.block w.heap.size (by omega)).trans hA1)
  have HBW := Lib.hid (show ∀ W, Below w1.heap.size w1 W → Below w.heap.size w W from fun W b => hb1.trans (b.mono (by omega)))
  have HB1 := Lib.hid hb1
  have HA1 := Lib.hid hA1
  have HS1 := Lib.hid hs1
  clear hb1 hA1 hs1
  go_enter Try.func14, Try.ntmps14
  go_upto_region 1 with fail
  try rw [hw1]
  clear hw1
  go_wp2_with (first
    | (with_reducible refine wpList_load_row (o := ⟨some 10, _, _, _, _, _⟩) rfl 25 _ rfl w.heap.size rfl 25 #[.bool false, .slice ak N ck, .slice av V cv, .slice ap M cp] (0, 0) _ HA1.out Try.underlying25 rfl SE.out ?_))
  refine (HCK.out w1 HB1.out).mono ?_
  rintro e w2 ⟨rfl, hb2⟩
  have HWL := Lib.hid (wl_new (w0 := w1) (w1 := w2) hb2)
  have HB2 := Lib.hid hb2
  obtain ⟨P, hP⟩ : ∃ P, w2.heap.size = P := ⟨_, rfl⟩
  have HA2 := Lib.hid (HAT.out _ HWL.out.bel)
  have hz := zero_writer
  clear hb2 HA1 HCK
  rw [hP] at HWL
  go_upto_region 5 with fail
  try simp only [hP]
  generalize hw3 : w2.alloc _ = w3 at *
  clear hP hw3 hz
  go_wp2_with (first
    | (with_reducible refine wpList_load_row (o := ⟨some 15, _, _, _, _, _⟩) rfl 25 _ rfl w.heap.size rfl 25 #[.bool false, .slice ak N ck, .slice av V cv, .slice ap M cp] (0, 0) _ HA2.out Try.underlying25 rfl SE.out ?_))
  refine (HKD.out _).mono ?_
  rintro e w4 ⟨rfl, hb4⟩
  have HW4 := Lib.hid (wl_num w1 w4 P [] 2 1 (HWL.out.below hb4) (by decide) (by simp))
  rw [show numW 2 1 = ([2], 0) by decide] at HW4
  clear hb4 HWL HA2 HKD
  try simp only [Bool.false_eq_true, if_false]
  go_wp2_with fail
  refine HW4.out.mono ?_
  rintro e w5 ⟨rfl, h5⟩
  have HW5 := Lib.hid (wl_num w1 w5 P _ (N : Int) 1 h5 (by omega) (by simp))
  rw [show numW (N : Int) 1 = ([(N : Int)], 0) from numW_one N (by have := HN9.out; omega)] at HW5
  have c1 := (node_at (HAT.out w5 h5.bel)).2.1
  have x1 : IntKind.u64.wrap (N : Int) = (N : Int) := IntWalk.u64_in _ (by omega)
  clear h5 HW4
  go_wp2_with fail
  refine HW5.out.mono ?_
  rintro e w6 ⟨rfl, h6⟩
  have HW6 := Lib.hid h6
  have c1' := (node_at (HAT.out w6 h6.bel)).2.1
  clear h6 HW5 c1 x1
  go_wp2_with fail
  clear c1'
  go_loopw [6, 7, 27] (fun _ _ v27 wr => ∃ i : Nat, i ≤ N ∧ v27 = .int .i64 (i : Int) ∧ WL w1 wr P ([2, (N : Int)] ++ (l.take i).flatMap keyB)) (fun _ _ v _ => N - (intOf v).toNat)
  case atStart => exact ⟨0, by omega, rfl, HW6.out.more (by simp)⟩
  case round =>
    clear HW6
    obtain ⟨i, hi, rfl, hW⟩ := hrel
    by_cases hlt : i < N
    · obtain ⟨x, hx⟩ : ∃ x, l[i]? = some x := ⟨_, List.getElem?_eq_getElem (by have := HN.out; omega)⟩
      obtain ⟨b1, o1, rfl, g1⟩ := HK.out i x hx
      have hix := index_sl b1 o1 N ck i hlt
      have g1' := ((HBW.out _ hW.bel).cell (p := ⟨b1, o1 + i, none⟩) (block_lt_of_cell g1)).trans g1
      have HST := Lib.hid (wl_str w1 wr P _ x hW (HKZ.out x (List.mem_of_getElem? hx)) (by have := HBX.out i; have := HN9.out; simp only [List.length_append, List.length_cons, List.length_nil]; omega))
      have HNX := Lib.hid (show (l.take (i + 1)).flatMap keyB = (l.take i).flatMap keyB ++ (strW x).1 from flat_step keyB l i x hx)
      have HLT := Lib.hid hlt
      have iI : (i : Int) < (N : Int) := by omega
      have i0 : (0 : Int) ≤ (i : Int) := by omega
      clear hi hlt hx hW g1
      go_wp2_with fail
      refine HST.out.mono ?_
      rintro e w7 ⟨rfl, h7⟩
      obtain ⟨c0, _, _, _⟩ := node_at (HAT.out w7 h7.bel)
      have H7 := Lib.hid h7
      clear h7 HST hix
      go_wp2_with fail
      go_roundw
      case rel => exact ⟨i + 1, by have := HLT.out; omega, by go_num, H7.out.more (by rw [HNX.out, List.append_assoc])⟩
      case measure => simp [intOf]; have := HLT.out; omega
    · obtain rfl : i = N := by omega
      rw [HTK.out i (Nat.le_refl _)] at hW
      have HW := Lib.hid hW
      obtain ⟨c0, _, _, c3⟩ := node_at (HAT.out wr hW.bel)
      clear hi hlt hW HTK HBX
      go_wp2_with fail
      clear c0 c3
      go_loopw [46] (fun v46 wr => ∃ j : Nat, j ≤ M ∧ v46 = .int .i64 (j : Int) ∧ WL w1 wr P (([2, (i : Int)] ++ l.flatMap keyB) ++ (q.take j).flatMap ptrB)) (fun v _ => M - (intOf v).toNat)
      case atStart => exact ⟨0, by omega, rfl, HW.out.more (by simp)⟩
      case round =>
        clear HW
        obtain ⟨j, hj, rfl, hW⟩ := hrel
        by_cases hlt : j < M
        · obtain ⟨x, hx⟩ : ∃ x, q[j]? = some x := ⟨_, List.getElem?_eq_getElem (by have := HM.out; omega)⟩
          obtain ⟨b1, o1, rfl, g1⟩ := HP.out j x hx
          have hix := index_ptr b1 o1 M cp j hlt
          have HRG := Lib.hid (range_below g1 (HBW.out _ hW.bel))
          have HNX := Lib.hid (flat_step ptrB q j x hx)
          have HLT := Lib.hid hlt
          have iI : (j : Int) < (M : Int) := by omega
          have i0 : (0 : Int) ≤ (j : Int) := by omega
          have SWC := Lib.hid (size_ptr x)
          have SWR := Lib.hid (size_ptrA x)
          have EW := Lib.hid (show (ptrRow zeroPtr).toArray.size = (ptrRow x).toArray.size by simp [ptrRow_length])
          have WO := Lib.hid (ptrRow_one x)
          have hzp := zero_ptr
          obtain ⟨ZA, hZA⟩ : ∃ ZA, (ptrRow zeroPtr).toArray = ZA := ⟨_, rfl⟩
          rw [hZA] at hzp EW
          have HPT := Lib.hid (fun W (hW : WL w1 W P (([2, (i : Int)] ++ l.flatMap keyB) ++ (q.take j).flatMap ptrB)) => wl_ptr w1 W P _ x hW (by have := HBK.out j; have := HN9.out; have := HBT.out; simp only [List.length_append, List.length_cons, List.length_nil]; omega))
          have HW := Lib.hid hW
          clear hj hlt hx hW g1 hZA
          go_upto_region 17 with (first
            | (with_reducible refine wpList_load_mid (op := ⟨some 49, _, _, _, _, _⟩) rfl 57 _ rfl b1 (o1 + j * 34) rfl (ptrRow x) _ HRG.out Try.underlying57 rfl SWC.out ?_)
            | (with_reducible refine wpList_store_row (o := ⟨none, .store _ (.tmp 9) _, _, _, _, _⟩) rfl 57 _ _ rfl wr.heap.size (ptrRow x).toArray rfl rfl 57 ZA (heap_alloc_new wr _) SWR.out EW.out WO.out ?_))
          clear hix hzp
          obtain ⟨h7, hb7⟩ := new_row8 wr ZA (ptrRow x).toArray
          generalize World.setRow _ wr.heap.size _ = w7 at *
          have H7 := Lib.hid h7
          have HPT7 := Lib.hid (HPT.out w7 (HW.out.below hb7))
          clear h7 hb7 HPT HW HRG SWC EW WO
          generalize (ptrRow x).toArray = AR at *
          go_wp2_with (first
            | (with_reducible refine wpList_load_row (o := ⟨some 50, _, _, _, _, _⟩) rfl 57 _ rfl wr.heap.size rfl 57 AR (0, 0) _ H7.out Try.underlying57 rfl SWR.out ?_))
          refine HPT7.out.mono ?_
          rintro e w8 ⟨rfl, h8⟩
          have H8 := Lib.hid h8
          clear h8 HPT7 H7
          go_wp2_with fail
          go_roundw
          case rel => exact ⟨j + 1, by have := HLT.out; omega, by go_num, H8.out.more (by rw [HNX.out, List.append_assoc])⟩
          case measure => simp [intOf]; have := HLT.out; omega
        · obtain rfl : j = M := by omega
          rw [HTP.out j (Nat.le_refl _)] at hW
          have hW' := hW.more (m := (2 :: (i : Int) :: (l.flatMap keyB ++ q.flatMap ptrB))) (by simp)
          have HPD := Lib.hid (wl_pad w1 wr P _ 512 hW' (by have := HNB.out; omega))
          rw [show padW ((2 :: (i : Int) :: (l.flatMap keyB ++ q.flatMap ptrB))).length 512 = (List.replicate (512 - ((2 :: (i : Int) :: (l.flatMap keyB ++ q.flatMap ptrB))).length) 0, 0) by unfold padW; rw [if_neg (by have := HNB.out; omega)]; rfl] at HPD
          clear hj hlt hW hW'
          go_wp2_with fail
          refine HPD.out.mono ?_
          rintro e w9 ⟨rfl, h9⟩
          rw [← HSEC.out] at h9
          have HBY := Lib.hid (wl_bytes w1 w9 P _ h9 (by rw [show (secB ⟨false, l, m, q⟩).length = 512 by rw [HSEC.out, List.length_append, List.length_replicate]; have := HNB.out; omega]; decide))
          rw [show (secB ⟨false, l, m, q⟩).length = 512 by rw [HSEC.out, List.length_append, List.length_replicate]; have := HNB.out; omega] at HBY
          have H9 := Lib.hid h9
          clear h9 HPD
          go_wp2_with fail
          refine HBY.out.mono ?_
          rintro e w10 ⟨a, c, rfl, hc, hbs, hwl, hb10⟩
          have HF := Lib.hid (And.intro hc (And.intro hbs (HBW.out _ hwl.bel)))
          clear hc hbs hwl hb10 HBY H9
          go_wp2_with fail
          go_ret2
          exact ⟨a, c, rfl, HF.out.1, HF.out.2.1, HF.out.2.2⟩
theorem nput_any (k v p : Value) (n : NodeV) (w : World) (h : NR w k v p n) (hn : NB n) (hc : checkN n = 0) :
    Calls Try.prog 14 #[.agg #[.bool n.lf, k, v, p]] w fun e w' => ∃ a c, e = .returned (.tuple #[.slice a 512 c, .int .i64 0]) ∧ 512 ≤ c ∧ BS w' (.slice a 512 c) (secB n) ∧ Below w.heap.size w w' := by
  obtain ⟨lf, l, m, q⟩ := n
  cases lf with
  | true => exact nput_true k v p l m q w h hn hc
  | false => exact nput_false k v p l m q w h hn hc
set_option maxRecDepth 100000 in
set_option maxHeartbeats 1600000 in
theorem nput_bad (k v p : Value) (n : NodeV) (w : World) (h : NR w k v p n) (hn : NB n) (hc : checkN n ≠ 0) :
    Calls Try.prog 14 #[.agg #[.bool n.lf, k, v, p]] w fun e w' => e = .returned (.tuple #[.slice none 0 0, .int .i64 (checkN n)]) ∧ Below w.heap.size w w' := by
  have hb1 := (Below.refl w.heap.size w).alloc (Nat.le_refl _) (.cells #[.bool n.lf, k, v, p] 25)
  have HA1 := Lib.hid (heap_alloc_new w (.cells #[.bool n.lf, k, v, p] 25))
  have HF := Lib.hid (ncheck_any k v p n _ (h.below hb1) hn)
  have HB1 := Lib.hid hb1
  have SE := Lib.hid (size_node n.lf k v p)
  have hd : (checkN n == 0) = false := by simpa using hc
  clear h hn hb1 hc
  generalize checkN n = ce at *
  generalize n.lf = lf at *
  go_enter Try.func14, Try.ntmps14
  go_wp2_with (first
    | (with_reducible refine wpList_load_row (o := ⟨some 10, _, _, _, _, _⟩) rfl 25 _ rfl w.heap.size rfl 25 #[.bool lf, k, v, p] (0, 0) _ HA1.out Try.underlying25 rfl SE.out ?_))
  refine HF.out.mono ?_
  rintro e w3 ⟨rfl, hb3⟩
  have HB3 := Lib.hid (HB1.out.trans (hb3.mono HB1.out.size))
  clear hb3 HF HB1 HA1
  go_wp2_with fail
  go_ret2
  exact ⟨rfl, HB3.out⟩
end Go.Proofs.Ytcgddhainmnebaa
