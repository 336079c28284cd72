/-
  The reference's Size, Check, Put, Same of layer 9.
-/
import Derived.Test.YtcgddhainmnebaaRy
namespace Go.Proofs.Ytcgddhainmnebaa
set_option maxRecDepth 4000
set_option linter.unusedVariables false
open Go.ChangeShapes Go.WideShapes Go.ChangeAt Go.RowKit

theorem made_row {w : World} {B n g : Nat} (h : w.ownsRow B 5 1 (.slice (some ⟨g, 0, none⟩) n n) n (madeCells #[.int .u8 0] n).toList) : ∃ cur, w.heap[g]? = some (.cells (List.toArray cur) 5 (0, 0)) ∧ cur = List.replicate n (Value.int .u8 0) := by
  rcases h.2 with ⟨h5, h6⟩ | ⟨g', c, cur, h5, hb, hg, h1, h2, h3, h4⟩
  · cases h5
  · injection h5 with e1 e2 e3
    injection e1 with e1
    injection e1 with e1
    subst e1 e3
    rw [Nat.mul_one] at h3 h4
    refine ⟨cur.toList, by simpa using hg, ?_⟩
    rw [toList_madeCells_one, List.take_of_length_le (by rw [Array.length_toList]; omega)] at h4
    exact h4
theorem ob_src {w1 w : World} {v : Value} {l : List Int} (h : OB w1 w v l) (hl : 0 < l.length) : ∃ g c, v = .slice (some ⟨g, 0, none⟩) l.length c ∧ ∀ j x, (l.map (Value.int .u8))[j]? = some x → w.cell? ((⟨g, 0, none⟩ : Addr).add j) = some x := by
  rcases h.own.2 with ⟨h5, h6⟩ | ⟨g, c, cur, h5, hb, hg, h1, h2, h3, h4⟩
  · omega
  · refine ⟨g, c, h5, fun j x hx => ?_⟩
    rw [Nat.mul_one] at h4
    have hj : j < l.length := by have := (List.getElem?_eq_some_iff.1 hx).1; rwa [List.length_map] at this
    rw [← h4, List.getElem?_take_of_lt hj, Array.getElem?_toList] at hx
    rw [Addr.add_mid, Nat.zero_add, cell_of_row _ _ _ _ _ _ hg]
    exact hx
theorem row_bs {w : World} {g : Nat} (l : List Int) (h : w.heap[g]? = some (.cells (l.map (Value.int .u8)).toArray 5 (0, 0))) (hy : Byt l) : BS w (.slice (some ⟨g, 0, none⟩) l.length l.length) l :=
  ⟨_, _, rfl, hy, nofun, .inr ⟨g, 0, rfl, fun i hi => by rw [cell_of_row _ _ _ _ _ _ h]; simp [List.getD, List.getElem?_eq_getElem hi]⟩⟩
theorem sec_byt {n : NodeV} (h : Byt (nodeB n)) : Byt (secB n) := fun z hz => by
  unfold secB at hz
  rcases List.mem_append.1 hz with hz | hz
  · exact h z hz
  · rw [(List.mem_replicate.1 hz).2]; omega
set_option maxRecDepth 100000 in
set_option maxHeartbeats 3200000 in
theorem rsize9_any (k v p : Value) (n : NodeV) (w : World) (h : NR w k v p n) (hn : NB n) (hfew : Few9 n) :
    Calls Try.prog 17 #[.agg #[.bool n.lf, k, v, p]] w fun e w' => e = .returned (.tuple #[.int .i64 (sizeA n).1, .int .i64 (sizeA n).2]) ∧ Below w.heap.size w w' := by
  have hb1 := (Below.refl w.heap.size w).alloc (Nat.le_refl _) (.cells #[.bool n.lf, k, v, p] 25)
  have hA1 := heap_alloc_new w (.cells #[.bool n.lf, k, v, p] 25)
  have hs1 : w.heap.size < (w.alloc (.cells #[.bool n.lf, k, v, p] 25)).heap.size := by simp
  generalize hw1 : w.alloc (.cells #[.bool n.lf, k, v, p] 25) = w1 at *
  have HF := Lib.hid (rform_any k v p n w1 (h.below hb1) hn)
  have HY := Lib.hid (fun (hf : formB n = true) W (b : Below w1.heap.size w1 W) => rbytes_any k v p n W ((h.below hb1).below b) hf hfew)
  have HAT := Lib.hid (fun W (b : Below w1.heap.size w1 W) => (b.block w.heap.size hs1).trans hA1)
  have HA1 := Lib.hid hA1
  have HB1 := Lib.hid hb1
  have SE := Lib.hid (size_node n.lf k v p)
  have HSA := Lib.hid (show sizeA n = if formB n then (((sizeN n : Nat) : Int), 0) else (0, 4) from rfl)
  have HNL := Lib.hid (fun hf => nodeB_length (n := n) hf)
  have HMX := Lib.hid (fun hf => sizeN_max (n := n) hf hn)
  obtain ⟨sa, hsa⟩ : ∃ sa, sizeA n = sa := ⟨_, rfl⟩
  rw [hsa] at HSA ⊢
  obtain ⟨fb, hfb⟩ : ∃ fb, formB n = fb := ⟨_, rfl⟩
  rw [hfb] at HF HSA HY HNL HMX
  clear h hn hfew hb1 hA1 hs1 hsa hfb
  go_enter Try.func17, Try.ntmps17
  go_upto_region 1 with fail
  try rw [hw1]
  clear hw1
  go_wp2_with (first
    | (with_reducible refine wpList_load_row (o := ⟨some 4, _, _, _, _, _⟩) rfl 25 _ rfl w.heap.size rfl 25 _ (0, 0) _ HA1.out Try.underlying25 rfl SE.out ?_))
  refine HF.out.mono ?_
  rintro e w2 ⟨rfl, hb2⟩
  have HA2 := Lib.hid (HAT.out w2 hb2)
  have HB2 := Lib.hid hb2
  clear hb2 HF HA1
  cases fb with
  | false =>
    have HE := Lib.hid (show sa = (0, 4) from HSA.out)
    clear HSA
    go_wp2_with fail
    go_ret2
    exact ⟨by rw [HE.out]; rfl, HB1.out.trans (HB2.out.mono HB1.out.size)⟩
  | true =>
    have HE := Lib.hid (show sa = (((sizeN n : Nat) : Int), 0) from HSA.out)
    have HY2 := Lib.hid (HY.out rfl w2 HB2.out)
    have HL := Lib.hid (HNL.out rfl)
    have HM := Lib.hid (HMX.out rfl)
    clear HSA HY HNL HMX
    go_wp2_with (first
      | (with_reducible refine wpList_load_row (o := ⟨some 7, _, _, _, _, _⟩) rfl 25 _ rfl w.heap.size rfl 25 _ (0, 0) _ HA2.out Try.underlying25 rfl SE.out ?_))
    refine HY2.out.mono ?_
    rintro e w3 ⟨vb, rfl, hob⟩
    obtain ⟨ab, cb, rfl⟩ := own_shape8 hob.own
    rw [HL.out]
    have HB3 := Lib.hid (HB2.out.trans (hob.bel.mono HB2.out.size))
    obtain ⟨z, hz⟩ : ∃ z, sizeN n = z := ⟨_, rfl⟩
    rw [hz] at HE HM ⊢
    have zI : (z : Int) ≤ 36028797018963968 := HM.out
    have z0 : (0 : Int) ≤ (z : Int) := by omega
    clear hob HY2 HA2 hz HL HM
    go_wp2_with fail
    go_ret2
    exact ⟨by rw [HE.out]; rfl, HB1.out.trans (HB3.out.mono HB1.out.size)⟩
set_option maxRecDepth 100000 in
set_option maxHeartbeats 3200000 in
theorem rcheck9_any (k v p : Value) (n : NodeV) (w : World) (h : NR w k v p n) (hn : NB n) (hfew : Few9 n) :
    Calls Try.prog 20 #[.agg #[.bool n.lf, k, v, p]] w fun e w' => e = .returned (.int .i64 (checkN n)) ∧ Below w.heap.size w w' := by
  have hb1 := (Below.refl w.heap.size w).alloc (Nat.le_refl _) (.cells #[.bool n.lf, k, v, p] 25)
  have HA1 := Lib.hid (heap_alloc_new w (.cells #[.bool n.lf, k, v, p] 25))
  have HF := Lib.hid (rsize9_any k v p n _ (h.below hb1) hn hfew)
  have HB1 := Lib.hid hb1
  have SE := Lib.hid (size_node n.lf k v p)
  have HSA := Lib.hid (show sizeA n = if formB n then (((sizeN n : Nat) : Int), 0) else (0, 4) from rfl)
  have HCN := Lib.hid (show checkN n = if formB n then (if sizeN n ≤ 512 then 0 else 6) else 4 from rfl)
  have HMX := Lib.hid (fun hf => sizeN_max (n := n) hf hn)
  obtain ⟨ce, hce⟩ : ∃ ce, checkN n = ce := ⟨_, rfl⟩
  rw [hce] at HCN ⊢
  obtain ⟨fb, hfb⟩ : ∃ fb, formB n = fb := ⟨_, rfl⟩
  rw [hfb] at HSA HCN HMX
  clear h hn hfew hb1 hce hfb
  cases fb with
  | false =>
    rw [show sizeA n = (0, 4) from HSA.out] at HF
    have HE := Lib.hid (show ce = 4 from HCN.out)
    clear HSA HCN HMX
    go_enter Try.func20, Try.ntmps20
    go_wp2_with (first
      | (with_reducible refine wpList_load_row (o := ⟨some 6, _, _, _, _, _⟩) rfl 25 _ rfl w.heap.size rfl 25 _ (0, 0) _ HA1.out Try.underlying25 rfl SE.out ?_))
    refine HF.out.mono ?_
    rintro e w2 ⟨rfl, hb2⟩
    have HB2 := Lib.hid hb2
    clear hb2 HF HA1
    go_wp2_with fail
    go_ret
    exact ⟨by rw [HE.out]; rfl, HB1.out.trans (HB2.out.mono HB1.out.size)⟩
  | true =>
    rw [show sizeA n = (((sizeN n : Nat) : Int), 0) from HSA.out] at HF
    have HE := Lib.hid (show ce = if sizeN n ≤ 512 then 0 else 6 from HCN.out)
    have HM := Lib.hid (HMX.out rfl)
    clear HSA HCN HMX
    obtain ⟨z, hz⟩ : ∃ z, sizeN n = z := ⟨_, rfl⟩
    rw [hz] at HF HM HE
    have zI : (z : Int) ≤ 36028797018963968 := HM.out
    have z0 : (0 : Int) ≤ (z : Int) := by omega
    clear hz HM
    by_cases hz5 : 512 < z
    · have HE2 := Lib.hid (show ce = 6 by rw [HE.out, if_neg (by omega)])
      have d1 : decide ((512 : Int) < (z : Int)) = true := by rw [decide_eq_true_iff]; omega
      clear hz5 HE
      go_enter Try.func20, Try.ntmps20
      go_wp2_with (first
        | (with_reducible refine wpList_load_row (o := ⟨some 6, _, _, _, _, _⟩) rfl 25 _ rfl w.heap.size rfl 25 _ (0, 0) _ HA1.out Try.underlying25 rfl SE.out ?_))
      refine HF.out.mono ?_
      rintro e w2 ⟨rfl, hb2⟩
      have HB2 := Lib.hid hb2
      clear hb2 HF HA1
      go_wp2_with fail
      go_ret
      exact ⟨by rw [HE2.out]; rfl, HB1.out.trans (HB2.out.mono HB1.out.size)⟩
    · have HE2 := Lib.hid (show ce = 0 by rw [HE.out, if_pos (by omega)])
      have d1 : decide ((512 : Int) < (z : Int)) = false := by rw [decide_eq_false_iff_not]; omega
      clear hz5 HE
      go_enter Try.func20, Try.ntmps20
      go_wp2_with (first
        | (with_reducible refine wpList_load_row (o := ⟨some 6, _, _, _, _, _⟩) rfl 25 _ rfl w.heap.size rfl 25 _ (0, 0) _ HA1.out Try.underlying25 rfl SE.out ?_))
      refine HF.out.mono ?_
      rintro e w2 ⟨rfl, hb2⟩
      have HB2 := Lib.hid hb2
      clear hb2 HF HA1
      go_wp2_with fail
      go_ret
      exact ⟨by rw [HE2.out]; rfl, HB1.out.trans (HB2.out.mono HB1.out.size)⟩
set_option maxRecDepth 100000 in
set_option maxHeartbeats 3200000 in
theorem rput9_ok (k v p : Value) (n : NodeV) (w : World) (h : NR w k v p n) (hn : NB n) (hfew : Few9 n) (hc : checkN n = 0) :
    Calls Try.prog 15 #[.agg #[.bool n.lf, k, v, p]] w fun e w' => ∃ a c, e = .returned (.tuple #[.slice a 512 c, .int .i64 0]) ∧ 512 ≤ c ∧ BS w' (.slice a 512 c) (secB n) ∧ Below w.heap.size w w' := by
  have hb1 := (Below.refl w.heap.size w).alloc (Nat.le_refl _) (.cells #[.bool n.lf, k, v, p] 25)
  have hA1 := heap_alloc_new w (.cells #[.bool n.lf, k, v, p] 25)
  have hs1 : w.heap.size < (w.alloc (.cells #[.bool n.lf, k, v, p] 25)).heap.size := by simp
  generalize hw1 : w.alloc (.cells #[.bool n.lf, k, v, p] 25) = w1 at *
  have HF := Lib.hid (rcheck9_any k v p n w1 (h.below hb1) hn hfew)
  rw [hc] at HF
  have hf := (check_ok hc).1
  have HY := Lib.hid (fun W (b : Below w1.heap.size w1 W) => rbytes_any k v p n W ((h.below hb1).below b) hf hfew)
  have HAT := Lib.hid (fun W (b : Below w1.heap.size w1 W) => (b.block w.heap.size hs1).trans hA1)
  have HA1 := Lib.hid hA1
  have HB1 := Lib.hid hb1
  have SE := Lib.hid (size_node n.lf k v p)
  have HL := Lib.hid (And.intro (nodeB_length hf) (check_ok hc).2)
  clear h hn hfew hb1 hA1 hs1 hf hc
  go_enter Try.func15, Try.ntmps15
  go_upto_region 1 with fail
  try rw [hw1]
  clear hw1
  go_wp2_with (first
    | (with_reducible refine wpList_load_row (o := ⟨some 6, _, _, _, _, _⟩) rfl 25 _ rfl w.heap.size rfl 25 _ (0, 0) _ HA1.out Try.underlying25 rfl SE.out ?_))
  refine HF.out.mono ?_
  rintro e w2 ⟨rfl, hb2⟩
  have HB2 := Lib.hid hb2
  have HZ2 := Lib.hid hb2.size
  clear hb2 HF HA1
  obtain ⟨i0, hi, hz0, hz1, hz2⟩ := info_parts info_u8
  have HI := Lib.hid (And.intro hi (And.intro hz0 (And.intro hz1 hz2)))
  clear hi hz0 hz1 hz2
  go_upto_region 5 with (at_make; refine wpList_make_full _ rfl _ _ _ rfl w2.heap.size 5 i0 (.int .u8 0) 1 Try.underlying28 HI.out.1 HI.out.2.1 HI.out.2.2.1 .i64 .i64 _ _ 512 rfl rfl (by rfl) (by rfl) ?c1 ?c2 ?c3 ?_)
  case c1 => rw [HI.out.2.2.2]; decide
  case c2 => unfold maxLen; decide
  case c3 => simp
  intro w3 hown hgrow
  have hb3 : Below w2.heap.size w2 w3 := (Below.refl w2.heap.size w2).grown hgrow (Nat.le_refl _) (by simp)
  obtain ⟨cur, hg3, hcur⟩ := made_row hown
  have HB3 := Lib.hid (HB2.out.trans (hb3.mono HB2.out.size))
  have HA3 := Lib.hid (HAT.out w3 HB3.out)
  have HY3 := Lib.hid (HY.out w3 HB3.out)
  have HG3 := Lib.hid hg3
  have HCUR := Lib.hid hcur
  have HS3 := Lib.hid (show w2.heap.size < w3.heap.size from (Array.getElem?_eq_some_iff.1 hg3).1)
  clear hown hgrow hb3 hg3 hcur HI HB2 HAT HY
  go_wp2_with (first
    | (with_reducible refine wpList_load_row (o := ⟨some 13, _, _, _, _, _⟩) rfl 25 _ rfl w.heap.size rfl 25 _ (0, 0) _ HA3.out Try.underlying25 rfl SE.out ?_))
  refine HY3.out.mono ?_
  rintro e w4 ⟨vb, rfl, hob⟩
  obtain ⟨gb, cb, rfl, hsrc⟩ := ob_src hob (by rw [HL.out.1]; unfold sizeN; omega)
  have HB4 := Lib.hid (HB3.out.trans (hob.bel.mono HB3.out.size))
  have HG4 := Lib.hid ((hob.bel.block _ HS3.out).trans HG3.out)
  have HBY := Lib.hid hob.byt
  have HSRC := Lib.hid hsrc
  have HLN := Lib.hid (show (nodeB n).length ≤ 512 by rw [HL.out.1]; exact HL.out.2)
  have HCP := Lib.hid (show ((nodeB n).map (Value.int .u8)).length = Nat.min (nodeB n).length 512 ∧ 0 + ((nodeB n).map (Value.int .u8)).length ≤ cur.length ∧ ∀ v ∈ (nodeB n).map (Value.int .u8), v.oneCell' = true from
    ⟨by rw [List.length_map]; exact (Nat.min_eq_left HLN.out).symm, by rw [List.length_map, HCUR.out, List.length_replicate]; have := HLN.out; omega, fun v hv => by obtain ⟨x, _, rfl⟩ := List.mem_map.1 hv; rfl⟩)
  have HEQ := Lib.hid (show (List.take 0 cur ++ ((nodeB n).map (Value.int .u8) ++ List.drop (0 + ((nodeB n).map (Value.int .u8)).length) cur)).toArray = ((secB n).map (Value.int .u8)).toArray by
    rw [HCUR.out]
    unfold secB
    rw [List.map_append, List.map_replicate, List.drop_replicate]
    simp)
  clear hob hsrc HB3 HA3 HY3 HG3 HS3 SE
  go_upto_region 6 with (first
    | (refine wpList_copy_y (o := ⟨some 15, _, _, _, _, _⟩) rfl (.tmp 12) (.tmp 14) 28 28 (by rfl) 5 Try.underlying28 yone w2.heap.size 0 512 512 ⟨gb, 0, none⟩ (nodeB n).length cb (by rfl) (by rfl) cur 5 HG4.out ((nodeB n).map (Value.int .u8)) HCP.out.1 HSRC.out HCP.out.2.1 HCP.out.2.2 ?_))
  rw [HEQ.out]
  generalize hw5 : World.setRow w4 _ _ = w5
  have HR := Lib.hid (show w5.heap[w2.heap.size]? = some (.cells ((secB n).map (Value.int .u8)).toArray 5 (0, 0)) by rw [← hw5]; exact setRow_heap _ _ _ _ _ _ HG4.out)
  have HB5 := Lib.hid (show Below w1.heap.size w1 w5 by rw [← hw5]; exact ybelow_row HB4.out HZ2.out _)
  have HBS := Lib.hid (row_bs (secB n) HR.out (sec_byt HBY.out))
  have HSL := Lib.hid (show (secB n).length = 512 by unfold secB; rw [List.length_append, List.length_replicate]; have := HLN.out; omega)
  rw [HSL.out] at HBS
  clear hw5 HEQ HG4 HB4 HCP HSRC HR
  go_wp2_with fail
  go_ret2
  exact ⟨_, _, rfl, Nat.le_refl _, HBS.out, HB1.out.trans (HB5.out.mono HB1.out.size)⟩
set_option maxRecDepth 100000 in
set_option maxHeartbeats 3200000 in
theorem rput9_bad (k v p : Value) (n : NodeV) (w : World) (h : NR w k v p n) (hn : NB n) (hfew : Few9 n) (hc : checkN n ≠ 0) :
    Calls Try.prog 15 #[.agg #[.bool n.lf, k, v, p]] w fun e w' => e = .returned (.tuple #[.slice none 0 0, .int .i64 (checkN n)]) ∧ Below w.heap.size w w' := by
  have hb1 := (Below.refl w.heap.size w).alloc (Nat.le_refl _) (.cells #[.bool n.lf, k, v, p] 25)
  have HA1 := Lib.hid (heap_alloc_new w (.cells #[.bool n.lf, k, v, p] 25))
  have HF := Lib.hid (rcheck9_any k v p n _ (h.below hb1) hn hfew)
  have HB1 := Lib.hid hb1
  have SE := Lib.hid (size_node n.lf k v p)
  have hcb : (checkN n == 0) = false := beq_eq_false_iff_ne.2 hc
  obtain ⟨ce, hce⟩ : ∃ ce, checkN n = ce := ⟨_, rfl⟩
  rw [hce] at HF hcb ⊢
  clear h hn hfew hb1 hce hc
  go_enter Try.func15, Try.ntmps15
  go_wp2_with (first
    | (with_reducible refine wpList_load_row (o := ⟨some 6, _, _, _, _, _⟩) rfl 25 _ rfl w.heap.size rfl 25 _ (0, 0) _ HA1.out Try.underlying25 rfl SE.out ?_))
  refine HF.out.mono ?_
  rintro e w2 ⟨rfl, hb2⟩
  have HB2 := Lib.hid hb2
  clear hb2 HF HA1
  go_wp2_with fail
  go_ret2
  exact ⟨rfl, HB1.out.trans (HB2.out.mono HB1.out.size)⟩
set_option maxRecDepth 100000 in
set_option maxHeartbeats 3200000 in
theorem rsame9_any (k v p k' v' p' : Value) (a b : NodeV) (w : World) (ha : NR w k v p a) (hb : NR w k' v' p' b) (na : NB a) (nb : NB b) (pa : a.ps.length ≤ 1000000) (pb : b.ps.length ≤ 1000000) :
    Calls Try.prog 22 #[.agg #[.bool a.lf, k, v, p], .agg #[.bool b.lf, k', v', p']] w fun e w' => e = .returned (.bool (sameN a b)) ∧ Below w.heap.size w w' := by
  have two : ∀ (x y : Array Value), ∃ w1 w2 : World, w1 = w.alloc (.cells x 25) ∧ w2 = w1.alloc (.cells y 25) ∧ w1.heap.size = w.heap.size + 1 ∧ w2.heap[w.heap.size]? = some (.cells x 25 (0, 0)) ∧ w2.heap[w.heap.size + 1]? = some (.cells y 25 (0, 0)) ∧ Below w.heap.size w w2 ∧ w2.heap.size = w.heap.size + 2 := by
    intro x y
    have hb1 := (Below.refl w.heap.size w).alloc (Nat.le_refl _) (.cells x 25)
    have hs1 : (w.alloc (.cells x 25)).heap.size = w.heap.size + 1 := by simp
    refine ⟨_, _, rfl, rfl, hs1, (heap_alloc_old _ _ (by rw [hs1]; omega)).trans (heap_alloc_new w _), ?_, hb1.alloc hb1.size _, by simp⟩
    rw [← hs1]
    exact heap_alloc_new _ _
  obtain ⟨w1, w2, hw1, hw2, hs1, hA, hB, hb2, hs2⟩ := two #[.bool a.lf, k, v, p] #[.bool b.lf, k', v', p']
  have HK := Lib.hid (fun W (q : Below w2.heap.size w2 W) => rtexts_any W k k' a.ks b.ks ((ha.ks.below hb2).below q) ((hb.ks.below hb2).below q) na.kl nb.kl)
  have HV := Lib.hid (fun W (q : Below w2.heap.size w2 W) => rtexts_any W v v' a.vs b.vs ((ha.vs.below hb2).below q) ((hb.vs.below hb2).below q) na.vl nb.vl)
  have HP := Lib.hid (fun W (q : Below w2.heap.size w2 W) => psame_any W p p' a.ps b.ps ((ha.ps.below hb2).below q) ((hb.ps.below hb2).below q) pa pb)
  have HE := Lib.hid (show sameN a b = ((a.lf == b.lf) && decide (a.ks = b.ks) && decide (a.vs = b.vs) && decide (a.ps = b.ps)) from rfl)
  have HAT := Lib.hid (fun W (q : Below w2.heap.size w2 W) => (q.block w.heap.size (by omega)).trans hA)
  have HBT := Lib.hid (fun W (q : Below w2.heap.size w2 W) => (q.block (w.heap.size + 1) (by omega)).trans hB)
  have HBW := Lib.hid (show ∀ W, Below w2.heap.size w2 W → Below w.heap.size w W from fun W q => hb2.trans (q.mono hb2.size))
  rw [HE.out]
  generalize decide (a.ks = b.ks) = dk at *
  generalize decide (a.vs = b.vs) = dv at *
  generalize decide (a.ps = b.ps) = dp at *
  generalize a.lf = la at *
  generalize b.lf = lb at *
  clear ha hb na nb pa pb HE two hA hB hs2
  obtain ⟨a0, a1, a2, a3⟩ := node_at (HAT.out w2 (Below.refl _ _))
  obtain ⟨b0, b1, b2, b3⟩ := node_at (HBT.out w2 (Below.refl _ _))
  have HR2 := Lib.hid (Below.refl w2.heap.size w2)
  go_enter Try.func22, Try.ntmps22
  go_upto_region 1 with fail
  try simp only [← hw1, ← hw2]
  clear hw1 hw2 hs1 hb2
  cases hl : (la == lb) with
  | false =>
    have HL := Lib.hid hl
    go_wp2_with fail
    go_ret
    rw [HL.out]
    exact ⟨rfl, HBW.out _ HR2.out⟩
  | true =>
    have HL := Lib.hid hl
    go_wp2_with fail
    refine (HK.out w2 HR2.out).mono ?_
    rintro e w3 ⟨rfl, hb3⟩
    have HB3 := Lib.hid hb3
    obtain ⟨_, _, d2, _⟩ := node_at (HAT.out w3 hb3)
    obtain ⟨_, _, e2, _⟩ := node_at (HBT.out w3 hb3)
    clear hb3 HK a0 a1 a2 a3 b0 b1 b2 b3
    cases dk with
    | false =>
      go_wp2_with fail
      go_ret
      rw [HL.out]
      exact ⟨rfl, HBW.out _ HB3.out⟩
    | true =>
      go_wp2_with fail
      refine (HV.out w3 HB3.out).mono ?_
      rintro e w4 ⟨rfl, hb4⟩
      have hq := HB3.out.trans (hb4.mono HB3.out.size)
      have HB4 := Lib.hid hq
      obtain ⟨_, _, _, d3⟩ := node_at (HAT.out w4 hq)
      obtain ⟨_, _, _, e3⟩ := node_at (HBT.out w4 hq)
      clear hb4 hq HV HB3 d2 e2
      cases dv with
      | false =>
        go_wp2_with fail
        go_ret
        rw [HL.out]
        exact ⟨rfl, HBW.out _ HB4.out⟩
      | true =>
        go_wp2_with fail
        refine (HP.out w4 HB4.out).mono ?_
        rintro e w5 ⟨rfl, hb5⟩
        have HB5 := Lib.hid (HB4.out.trans (hb5.mono HB4.out.size))
        clear hb5 HP HB4 d3 e3
        cases dp <;>
        · go_wp2_with fail
          go_ret
          rw [HL.out]
          exact ⟨rfl, HBW.out _ HB5.out⟩
theorem two_box (w : World) (x y : Array Value) : ∃ w1 w2 : World, w1 = w.alloc (.cells x 25) ∧ w2 = w1.alloc (.cells y 25) ∧ w1.heap.size = w.heap.size + 1 ∧ w2.heap[w.heap.size]? = some (.cells x 25 (0, 0)) ∧ w2.heap[w.heap.size + 1]? = some (.cells y 25 (0, 0)) ∧ Below w.heap.size w w2 ∧ w2.heap.size = w.heap.size + 2 := by
  have hb1 := (Below.refl w.heap.size w).alloc (Nat.le_refl _) (.cells x 25)
  have hs1 : (w.alloc (.cells x 25)).heap.size = w.heap.size + 1 := by simp
  refine ⟨_, _, rfl, rfl, hs1, (heap_alloc_old _ _ (by rw [hs1]; omega)).trans (heap_alloc_new w _), ?_, hb1.alloc hb1.size _, by simp⟩
  rw [← hs1]
  exact heap_alloc_new _ _
end Go.Proofs.Ytcgddhainmnebaa
