/-
  'NodeFinds' returns true at every input, and each argument reads behind the call as it read before. Conditions: none.
-/
import Derived.Test.YtcgddhainmnebaaRows
import Derived.Test.YtcgddhainmnebaaAes0
import Derived.Test.YtcgddhainmnebaaNg
namespace Go.Proofs.Ytcgddhainmnebaa.nodeFinds
open Go.ChangeShapes Go.WideShapes Go.ChangeAt Go.RowKit
set_option linter.unusedVariables false

theorem ss_base {w : World} {a : Option Addr} {n c : Nat} {l : List ByteArray} (h : SS w (.slice a n c) l) : ∃ b off, (0 < n → a = some ⟨b, off, none⟩) ∧ ∀ j s, l[j]? = some s → w.cell? ⟨b, off + j, none⟩ = some (.string s) := by
  obtain ⟨a', c', he, hcc, hc⟩ := h
  injection he with e1 e2 e3
  subst e1
  subst e2
  cases l with
  | nil => exact ⟨0, 0, fun h => absurd h (Nat.lt_irrefl _), fun j s hs => by simp at hs⟩
  | cons x l =>
    obtain ⟨b, off, e, _⟩ := hc 0 x rfl
    refine ⟨b, off, fun _ => e, fun j s hs => ?_⟩
    obtain ⟨b2, off2, e2, g⟩ := hc j s hs
    rw [e] at e2
    cases e2
    exact g
theorem rising_more {l : List ByteArray} {i : Nat} {x : ByteArray} (h : Rising (l.take i)) (hx : l[i]? = some x) (hp : ∀ y, 0 < i → l[i - 1]? = some y → lo y x = true) : Rising (l.take (i + 1)) := by
  unfold Rising at *
  rw [List.take_add_one, hx]
  refine List.pairwise_append.2 ⟨h, List.pairwise_singleton _ _, fun a ha b hb => ?_⟩
  obtain rfl : b = x := by simpa using hb
  obtain ⟨j, hj⟩ := List.getElem?_of_mem ha
  have hji : j < i := by
    have := (List.getElem?_eq_some_iff.1 hj).1
    rw [List.length_take] at this
    omega
  have hja : l[j]? = some a := by rw [List.getElem?_take] at hj; simpa [hji] using hj
  obtain ⟨y, hy⟩ : ∃ y, l[i - 1]? = some y := ⟨_, List.getElem?_eq_getElem (by have := (List.getElem?_eq_some_iff.1 hx).1; omega)⟩
  have hyx := hp y (by omega) hy
  rcases Nat.lt_or_ge j (i - 1) with c | c
  · exact lo_trans (rising_at h c (by rw [List.getElem?_take]; simp [hji, hja]) (by rw [List.getElem?_take]; simp [show i - 1 < i by omega, hy])) hyx
  · obtain rfl : j = i - 1 := by omega
    rw [hy] at hja
    cases hja
    exact hyx

set_option maxRecDepth 100000 in
set_option maxHeartbeats 3200000 in
theorem walk (w : World) (k0 v0 p0 : Value) (n0 : NodeV) (nr0 : NR w k0 v0 p0 n0) (nb0 : NB n0) (s1 : ByteArray) (z1 : s1.size ≤ 140737488351232) :
    Calls Try.prog 5 #[.agg #[.bool n0.lf, k0, v0, p0], .string s1] w fun e w' => e = .returned (.bool true) ∧ Below w.heap.size w w' := by
  have hb1 := (Below.refl w.heap.size w).alloc (Nat.le_refl _) (.cells #[.bool n0.lf, k0, v0, p0] 25)
  have hA1 := heap_alloc_new w (.cells #[.bool n0.lf, k0, v0, p0] 25)
  have hs1 : w.heap.size < (w.alloc (.cells #[.bool n0.lf, k0, v0, p0] 25)).heap.size := by simp
  have SE := Lib.hid (size_node n0.lf k0 v0 p0)
  generalize hw1 : w.alloc (.cells #[.bool n0.lf, k0, v0, p0] 25) = w1 at *
  have HAL := Lib.hid (alive9_any w1)
  have HAT := Lib.hid (fun W (b : Below w1.heap.size w1 W) => (b.block w.heap.size hs1).trans hA1)
  have HBW := Lib.hid (show ∀ W, Below w1.heap.size w1 W → Below w.heap.size w W from fun W b => hb1.trans (b.mono hb1.size))
  have HGR := Lib.hid (fun W (b : Below w1.heap.size w1 W) => great9_any k0 v0 p0 n0 W ((nr0.below hb1).below b) nb0)
  have HRF := Lib.hid (fun (hr : Rising n0.ks) key W (b : Below w1.heap.size w1 W) => rfind_any k0 v0 p0 n0 key W ((nr0.below hb1).below b) nb0 hr)
  have HFD := Lib.hid (fun (hr : Rising n0.ks) key W (b : Below w1.heap.size w1 W) => nfind_any k0 v0 p0 n0 key W ((nr0.below hb1).below b) nb0 hr)
  have HKS := Lib.hid (nr0.below hb1).ks
  obtain ⟨ak, ck, hk0⟩ := nr0.ks.shape
  have kI : (n0.ks.length : Int) ≤ 140737488351232 := by have := nb0.kl; omega
  have kN : (0 : Int) ≤ (n0.ks.length : Int) := by omega
  subst hk0
  obtain ⟨bx, off, hbase, hcl⟩ := ss_base HKS.out
  have HBS := Lib.hid hbase
  have HCL := Lib.hid (show ∀ j s, n0.ks[j]? = some s → ∀ W, Below w1.heap.size w1 W → W.cell? ⟨bx, off + j, none⟩ = some (.string s) from fun j s hs W b => (b.cell (block_lt_of_cell (hcl j s hs))).trans (hcl j s hs))
  clear nr0 nb0 hb1 hA1 HKS hbase hcl
  go_enter Try.func5, Try.ntmps5
  go_upto_region 1 with fail
  try rw [hw1]
  clear hw1 hs1
  go_wp2_with fail
  refine HAL.out.mono ?_
  rintro e w2 ⟨rfl, hb2⟩
  have HB2 := Lib.hid hb2
  have HA2 := Lib.hid (HAT.out w2 hb2)
  clear hb2 HAL
  go_wp2_with (first
    | (with_reducible refine wpList_load_row (o := ⟨some 12, _, _, _, _, _⟩) rfl 25 _ rfl w.heap.size rfl 25 _ (0, 0) _ HA2.out Try.underlying25 rfl SE.out ?_))
  refine (HGR.out w2 HB2.out).mono ?_
  rintro e w3 ⟨b, rfl, hfew, hb3⟩
  have HB3 := Lib.hid (HB2.out.trans (hb3.mono HB2.out.size))
  have HA3 := Lib.hid (HAT.out w3 HB3.out)
  clear hb3 HB2 HA2 HGR hfew
  cases b with
  | true =>
    go_wp2_with fail
    go_ret
    exact ⟨rfl, HBW.out _ HB3.out⟩
  | false =>
    have sI : (s1.size : Int) ≤ 140737488351232 := by omega
    cases hbig : decide ((500 : Int) < (s1.size : Int)) with
    | true =>
      go_wp2_with fail
      go_ret
      exact ⟨rfl, HBW.out _ HB3.out⟩
    | false =>
      obtain ⟨N, hN⟩ : ∃ N, n0.ks.length = N := ⟨_, rfl⟩
      have HN := Lib.hid hN
      have HT := Lib.hid (show n0.ks.take N = n0.ks from by rw [← hN, List.take_length])
      rw [hN] at HAT SE HBS kI kN HFD HRF ⊢
      obtain ⟨lf, hlf⟩ : ∃ lf, n0.lf = lf := ⟨_, rfl⟩
      rw [hlf] at HAT SE HFD HRF ⊢
      obtain ⟨fA, hfA⟩ : ∃ fA, findA n0 = fA := ⟨_, rfl⟩
      rw [hfA] at HFD HRF
      clear hlf hN hfA
      obtain ⟨_, c1, _, _⟩ := node_at (HAT.out w3 HB3.out)
      go_wp2_with fail
      clear c1 sI hbig
      go_loopw [5, 22] (fun _ v22 wr => ∃ i : Nat, i ≤ N ∧ v22 = .int .i64 (i : Int) ∧ Rising (n0.ks.take i) ∧ Below w1.heap.size w1 wr) (fun _ v _ => N - (intOf v).toNat)
      case atStart => exact ⟨0, by omega, rfl, by rw [List.take_zero]; exact List.Pairwise.nil, HB3.out⟩
      case round =>
        clear HB3
        obtain ⟨i, hi, rfl, hR, hB⟩ := hrel
        by_cases hlt : i < N
        · obtain ⟨x, hx⟩ : ∃ x, n0.ks[i]? = some x := ⟨_, List.getElem?_eq_getElem (by have := HN.out; omega)⟩
          obtain rfl := HBS.out (by omega)
          have gx0 := HCL.out i x hx wr hB
          have hix := index_sl bx off N ck i hlt
          obtain ⟨_, c1, _, _⟩ := node_at (HAT.out wr hB)
          have HMR := Lib.hid (fun hp => rising_more hR hx hp)
          have HLT := Lib.hid hlt
          have HB := Lib.hid hB
          have iI : (i : Int) < (N : Int) := by omega
          have i0 : (0 : Int) ≤ (i : Int) := by omega
          by_cases hz : i = 0
          · have hzb : decide (0 < i) = false := by rw [hz]; rfl
            have HM := Lib.hid (HMR.out (fun y h0 => absurd h0 (by omega)))
            clear hi hlt hx hB hz hR HMR
            go_upto_region 8 with fail
            go_quiet (fail)
            go_wp2_with fail
            go_roundw
            case rel => exact ⟨i + 1, by have := HLT.out; omega, by go_num, HM.out, ybelow_drewN HB.out nq⟩
            case measure => simp [intOf]; have := HLT.out; omega
          · have hzb : decide (0 < i) = true := by rw [decide_eq_true_iff]; omega
            obtain ⟨j, hj⟩ : ∃ j : Nat, (i : Int) - 1 = (j : Int) := ⟨i - 1, by omega⟩
            have hji : j < N := by omega
            obtain ⟨y, hy⟩ : ∃ y, n0.ks[j]? = some y := ⟨_, List.getElem?_eq_getElem (by have := HN.out; omega)⟩
            have gy0 := HCL.out j y hy wr hB
            have hix2 := index_sl bx off N ck j hji
            have jI : (j : Int) < (N : Int) := by omega
            have j0 : (0 : Int) ≤ (j : Int) := by omega
            have HM := Lib.hid (fun (h : lo y x = true) => HMR.out (fun z h0 hz2 => by
              rw [show i - 1 = j by omega, hy] at hz2
              cases hz2
              exact h))
            clear hi hlt hx hB hz hR HMR hji hy
            cases hlo : lo y x with
            | true =>
              have HM2 := Lib.hid (HM.out hlo)
              have hlo' : Op.bytesLess y.toList x.toList = true := hlo
              clear HM hlo
              go_upto_region 8 with fail
              go_quiet (fail)
              go_wp2_with fail
              go_roundw
              case rel => exact ⟨i + 1, by have := HLT.out; omega, by go_num, HM2.out, ybelow_drewN HB.out nq⟩
              case measure => simp [intOf]; have := HLT.out; omega
            | false =>
              have hlo' : Op.bytesLess y.toList x.toList = false := hlo
              clear HM hlo
              go_upto_region 8 with fail
              go_quiet (fail)
              go_wp2_with fail
              go_ret
              exact ⟨rfl, HBW.out _ (ybelow_drewN HB.out nq)⟩
        · obtain rfl : i = N := by omega
          rw [HT.out] at hR
          have HB := Lib.hid hB
          have HA := Lib.hid (HAT.out wr hB)
          have HF1 := Lib.hid (HFD.out hR s1 wr hB)
          have HF2 := Lib.hid (HRF.out hR s1)
          clear hi hlt hB hR HFD HRF
          go_wp2_with (first
            | (with_reducible refine wpList_load_row (o := ⟨some 43, _, _, _, _, _⟩) rfl 25 _ rfl w.heap.size rfl 25 _ (0, 0) _ HA.out Try.underlying25 rfl SE.out ?_))
          refine HF1.out.mono ?_
          rintro e w4 ⟨rfl, hb4⟩
          have HB4 := Lib.hid (HB.out.trans (hb4.mono HB.out.size))
          have HA4 := Lib.hid (HAT.out w4 HB4.out)
          clear hb4 HB HA HF1
          go_wp2_with (first
            | (with_reducible refine wpList_load_row (o := ⟨some 49, _, _, _, _, _⟩) rfl 25 _ rfl w.heap.size rfl 25 _ (0, 0) _ HA4.out Try.underlying25 rfl SE.out ?_))
          refine (HF2.out w4 HB4.out).mono ?_
          rintro e w5 ⟨rfl, hb5⟩
          have HB5 := Lib.hid (HB4.out.trans (hb5.mono HB4.out.size))
          clear hb5 HB4 HA4 HF2
          generalize (fA s1).1 = ra at *
          generalize (fA s1).2 = rb at *
          cases rb <;>
          · go_wp2_with fail
            go_ret
            exact ⟨by simp, HBW.out _ HB5.out⟩
set_option maxRecDepth 100000 in
theorem lifted (os : Os) (started : os.Started) (H : Type) (enc : TypeId × Value → H) :
    ReturnsInHanded {} Try.checked os 5 .any (Rows.nodeFindsSpec.pre6 enc Try.prog Try.f5 Rows.nodeFindsRow.domain false) (Rows.nodeFindsSpec.post enc Try.prog Try.f5 false true false false) := by
  refine returnsInHanded_of_change_sized (C := Try.checked) own started (by kernel_rfl) Try.func5
    (ChangeSpec.witness6 (enc := enc) (C := Try.checked) false ⟨#[], #[.agg #[.bool false, .slice none 0 0, .slice none 0 0, .slice none 0 0], .string ⟨#[]⟩], []⟩ 8 (by kernel_rfl) (by kernel_rfl) (by kernel_rfl) (by kernel_rfl)) ?_
  intro W base args ds gs before hval0 hW hcnd hsz0 _
  have hsz : (DataW.weightsEach Try.prog (Try.f5.params.toList ++ Rows.nodeFindsSpec.plain.varTypes Try.prog) (ds ++ gs)).all (· ≤ reachBytes) = true := hsz0
  clear hsz0
  have hval : ∀ (j : Nat) t v, Try.f5.params[j]? = some t → args[j]? = some v → Value.okWide Try.prog W .any base t v := hval0
  have hW' := hW
  obtain ⟨p, q, hA0, hV, rfl, hfz, hnd⟩ := hW
  have hA : DataW.TrodAll enc Try.prog W 0 (fun _ => true) true Try.f5.params.toList args.toList ds p := hA0
  rw [Try.params5] at hA hval hsz
  obtain ⟨v0, vs0, d0, ds0, p0, q0, hargs, rfl, rfl, h0, r0⟩ := trodAll_cons hA
  obtain ⟨v1, vs1, d1, ds1, p1, q1, rfl, rfl, rfl, h1, r1⟩ := trodAll_cons r0
  obtain ⟨rfl, rfl, rfl⟩ := trodAll_nil r1
  obtain rfl : args = #[v0, v1] := by cases args; simp_all
  obtain ⟨rfl, rfl⟩ := trodVars_none hV
  have k0 := h0
  have lt0 : ∀ x ∈ p0, x.block < W.heap.size := by obtain ⟨m, hm⟩ := k0; exact DataW.trod_lt m _ _ _ hm
  have k1 := h1
  have lt1 : ∀ x ∈ p1, x.block < W.heap.size := by obtain ⟨m, hm⟩ := k1; exact DataW.trod_lt m _ _ _ hm
  obtain ⟨kk0, vv0, pp0, n0, rfl, nr0, nb0⟩ := par_node (j := 0) (hval 0 25 v0 rfl rfl) h0 hsz rfl rfl
  obtain ⟨s1, rfl, z1⟩ := par_str (j := 1) Try.underlying9 (hval 1 9 v1 rfl rfl) h1 hsz rfl rfl
  clear hA0 hval0
  simp only [List.append_nil] at hW'
  refine (walk W kk0 vv0 pp0 n0 nr0 nb0 s1 z1).mono fun e W' ⟨he, bel⟩ => ?_
  subst he
  exact ⟨_, rfl, _, _, _, [], _, [], hW', trodAll_mk1 (shut_bool Try.underlying4 _), (trodAll_cons_mk (Below.trod laidOut (by kernel_rfl) (of_decide_eq_true (by kernel_rfl)) k0 bel lt0) (trodAll_cons_mk (Below.trod laidOut (by kernel_rfl) (of_decide_eq_true (by kernel_rfl)) k1 bel lt1) trodAll_mk0)), rfl, bel.frame _, fun h => by cases h⟩

theorem over : Rows.nodeFindsRow.holds Try.pinned (OpenSpec.ofChange Rows.nodeFindsSpec) :=
  OpenClaim.holds_of_wide 5 Try.f5 rfl rfl rfl rfl rfl rfl rfl ⟨rfl, rfl, rfl, rfl, rfl⟩ rfl rfl rfl rfl rfl (by kernel_rfl) Try.func5 (by kernel_rfl)
    (of_decide_eq_true (by kernel_rfl)) (by unfold Func.isWrapper; first | (rw [if_pos (by decide +kernel)]; kernel_rfl) | (rw [if_neg (by decide +kernel)]; exact ⟨rfl, rfl⟩))
    (fun os started H enc _ => lifted os started H enc)

/-- The statement. -/
theorem proved : Rows.NodeFindsSaid := over
#print axioms proved
end Go.Proofs.Ytcgddhainmnebaa.nodeFinds
