/-
  'NodePlaces' returns true at every input, and each argument reads behind the call as it read before. Conditions: none.
-/
import Derived.Test.YtcgddhainmnebaaRows
import Derived.Test.YtcgddhainmnebaaAes0
import Derived.Test.YtcgddhainmnebaaNl
import Derived.Test.YtcgddhainmnebaaQy
namespace Go.Proofs.Ytcgddhainmnebaa.nodePlaces
open Go.ChangeShapes Go.WideShapes Go.ChangeAt Go.RowKit
set_option linter.unusedVariables false

theorem check_three (n : NodeV) : checkN n = 0 ∨ checkN n = 4 ∨ checkN n = 6 := by
  unfold checkN
  split
  · split
    · exact .inl rfl
    · exact .inr (.inr rfl)
  · exact .inr (.inl rfl)
theorem ss_base {w : World} {a : Option Addr} {n c : Nat} {l : List ByteArray} (h : SS w (.slice a n c) l) : ∃ b off, (0 < n → a = some ⟨b, off, none⟩) ∧ ∀ j s, l[j]? = some s → w.cell? ⟨b, off + j, none⟩ = some (.string s) := by
  obtain ⟨a', c', he, hcc, hc⟩ := h
  injection he with e1 e2 e3
  subst e1
  subst e2
  cases l with
  | nil => exact ⟨0, 0, fun h => absurd h (Nat.lt_irrefl _), fun j s hs => by simp at hs⟩
  | cons x l =>
    obtain ⟨b, off, e, _⟩ := hc 0 x rfl
    refine ⟨b, off, fun _ => e, fun j s hs => ?_⟩
    obtain ⟨b2, off2, e2, g⟩ := hc j s hs
    rw [e] at e2
    cases e2
    exact g
theorem rank_split : ∀ (l : List ByteArray) (key : ByteArray), Rising l → ∀ (x : Nat) (s : ByteArray), l[x]? = some s → (lo s key = true ↔ x < rankK l key)
  | [], _, _, x, s, h => by simp at h
  | a :: l, key, hr, x, s, h => by
    have h1 : Rising l := (List.pairwise_cons.1 hr).2
    have h2 := (List.pairwise_cons.1 hr).1
    have ih := rank_split l key h1
    have e : rankK (a :: l) key = rankK l key + (if lo a key = true then 1 else 0) := by unfold rankK; rw [List.countP_cons]
    cases hb : lo a key with
    | true =>
      rw [e, hb, if_pos rfl]
      cases x with
      | zero => simp at h; subst h; simp [hb]
      | succ x =>
        have := ih x s (by simpa using h)
        rw [this]; omega
    | false =>
      have all : ∀ t ∈ l, lo t key = false := fun t ht => by
        cases hc : lo t key with
        | false => rfl
        | true => have := lo_trans (h2 t ht) hc; rw [hb] at this; cases this
      have e0 : rankK l key = 0 := by
        unfold rankK
        rw [List.countP_eq_zero]
        intro t ht
        rw [all t ht]
        decide
      rw [e, hb, e0]
      simp only [Bool.false_eq_true, if_false, Nat.add_zero, Nat.not_lt_zero, iff_false]
      cases x with
      | zero => simp at h; subst h; simp [hb]
      | succ x => rw [all s (List.mem_of_getElem? (by simpa using h))]; simp
theorem find_there {l : List ByteArray} (hr : Rising l) {i : Nat} {k : ByteArray} (h : l[i]? = some k) : rankK l k = i ∧ hasK l k = true := by
  refine ⟨?_, hasK_iff.2 (List.mem_of_getElem? h)⟩
  have h1 := rank_split l k hr i k h
  rw [lo_irr] at h1
  have h2 : ¬ i < rankK l k := fun c => by have := h1.2 c; cases this
  rcases Nat.lt_or_ge (rankK l k) i with c | c
  · obtain ⟨s, hs⟩ : ∃ s, l[rankK l k]? = some s := ⟨_, List.getElem?_eq_getElem (by have := (List.getElem?_eq_some_iff.1 h).1; omega)⟩
    have h3 := (rank_split l k hr _ s hs).1 (rising_at hr c hs h)
    omega
  · omega
theorem find_first {n : NodeV} (h : formB n = true) : findA n ⟨#[]⟩ = (0, false) := by
  have h1 : ∀ s ∈ n.ks, lo ⟨#[]⟩ s = true := by
    unfold formB at h
    simp only [Bool.and_eq_true] at h
    exact rises_pos _ _ h.1.1.2
  have e1 : rankK n.ks ⟨#[]⟩ = 0 := by
    unfold rankK
    rw [List.countP_eq_zero]
    intro t ht
    rw [lo_asymm (h1 t ht)]
    decide
  have e2 : hasK n.ks ⟨#[]⟩ = false := by
    rw [← Bool.not_eq_true, hasK_iff]
    intro hm
    have := h1 _ hm
    rw [lo_irr] at this
    cases this
  unfold findA
  rw [e1, e2]
  simp
/-- Where a key goes on: what stands ahead isn't behind it, what stands there isn't ahead of it. -/
theorem find_mid {n : NodeV} (hr : Rising n.ks) (key : ByteArray) : ∃ a : Nat, (findA n key).1 = (a : Int) ∧ a ≤ n.ks.length ∧
    (∀ s, 0 < a → n.ks[a - 1]? = some s → Op.bytesLess key.toList s.toList = false) ∧ (∀ s, n.ks[a]? = some s → Op.bytesLess s.toList key.toList = false) := by
  have hrk : rankK n.ks key ≤ n.ks.length := List.countP_le_length
  have hsp := rank_split n.ks key hr
  have ge : ∀ s x, n.ks[x]? = some s → rankK n.ks key ≤ x → lo s key = false := fun s x hs hx => by
    cases e : lo s key with
    | false => rfl
    | true => have := (hsp x s hs).1 e; omega
  cases hh : (hasK n.ks key && !n.lf) with
  | false =>
    refine ⟨rankK n.ks key, by unfold findA; rw [hh]; simp, hrk, fun s h0 hs => ?_, fun s hs => ge s _ hs (Nat.le_refl _)⟩
    exact lo_asymm ((hsp _ s hs).2 (by omega))
  | true =>
    simp only [Bool.and_eq_true] at hh
    obtain ⟨x, hx⟩ := List.getElem?_of_mem (hasK_iff.1 hh.1)
    obtain ⟨hxe, _⟩ := find_there hr hx
    have hxl := (List.getElem?_eq_some_iff.1 hx).1
    refine ⟨rankK n.ks key + 1, by unfold findA; rw [hh.1, hh.2]; simp, by omega, fun s h0 hs => ?_, fun s hs => ge s _ hs (by omega)⟩
    rw [Nat.add_sub_cancel, hxe, hx] at hs
    cases hs
    exact lo_irr _

set_option maxRecDepth 100000 in
set_option maxHeartbeats 3200000 in
theorem walk (w : World) (k0 v0 p0 : Value) (n0 : NodeV) (nr0 : NR w k0 v0 p0 n0) (nb0 : NB n0) (s1 : ByteArray) (z1 : s1.size ≤ 140737488351232) :
    Calls Try.prog 7 #[.agg #[.bool n0.lf, k0, v0, p0], .string s1] w fun e w' => e = .returned (.bool true) ∧ Below w.heap.size w w' := by
  have hb1 := (Below.refl w.heap.size w).alloc (Nat.le_refl _) (.cells #[.bool n0.lf, k0, v0, p0] 25)
  have hA1 := heap_alloc_new w (.cells #[.bool n0.lf, k0, v0, p0] 25)
  have hs1 : w.heap.size < (w.alloc (.cells #[.bool n0.lf, k0, v0, p0] 25)).heap.size := by simp
  have SE := Lib.hid (size_node n0.lf k0 v0 p0)
  generalize hw1 : w.alloc (.cells #[.bool n0.lf, k0, v0, p0] 25) = w1 at *
  have HAL := Lib.hid (alive9_any w1)
  have HAT := Lib.hid (fun W (b : Below w1.heap.size w1 W) => (b.block w.heap.size hs1).trans hA1)
  have HBW := Lib.hid (show ∀ W, Below w1.heap.size w1 W → Below w.heap.size w W from fun W b => hb1.trans (b.mono hb1.size))
  have HGR := Lib.hid (fun W (b : Below w1.heap.size w1 W) => great9_any k0 v0 p0 n0 W ((nr0.below hb1).below b) nb0)
  have HCK := Lib.hid (fun W (b : Below w1.heap.size w1 W) => ncheck_any k0 v0 p0 n0 W ((nr0.below hb1).below b) nb0)
  have HFD := Lib.hid (fun (hr : Rising n0.ks) key W (b : Below w1.heap.size w1 W) => nfind_any k0 v0 p0 n0 key W ((nr0.below hb1).below b) nb0 hr)
  have HKS := Lib.hid (nr0.below hb1).ks
  obtain ⟨ak, ck, hk0⟩ := nr0.ks.shape
  have kI : (n0.ks.length : Int) ≤ 140737488351232 := by have := nb0.kl; omega
  have kN : (0 : Int) ≤ (n0.ks.length : Int) := by omega
  subst hk0
  obtain ⟨bx, off, hbase, hcl⟩ := ss_base HKS.out
  have HBS := Lib.hid hbase
  have HCL := Lib.hid (show ∀ j s, n0.ks[j]? = some s → ∀ W, Below w1.heap.size w1 W → W.cell? ⟨bx, off + j, none⟩ = some (.string s) from fun j s hs W b => (b.cell (block_lt_of_cell (hcl j s hs))).trans (hcl j s hs))
  clear nr0 nb0 hb1 hA1 HKS hbase hcl
  go_enter Try.func7, Try.ntmps7
  go_upto_region 1 with fail
  try rw [hw1]
  clear hw1 hs1
  go_wp2_with fail
  refine HAL.out.mono ?_
  rintro e w2 ⟨rfl, hb2⟩
  have HB2 := Lib.hid hb2
  have HA2 := Lib.hid (HAT.out w2 hb2)
  clear hb2 HAL
  go_wp2_with (first
    | (with_reducible refine wpList_load_row (o := ⟨some 19, _, _, _, _, _⟩) rfl 25 _ rfl w.heap.size rfl 25 _ (0, 0) _ HA2.out Try.underlying25 rfl SE.out ?_))
  refine (HGR.out w2 HB2.out).mono ?_
  rintro e w3 ⟨b, rfl, hfew, hb3⟩
  have HB3 := Lib.hid (HB2.out.trans (hb3.mono HB2.out.size))
  have HA3 := Lib.hid (HAT.out w3 HB3.out)
  clear hb3 HB2 HA2 HGR hfew
  cases b with
  | true =>
    go_wp2_with fail
    go_ret
    exact ⟨rfl, HBW.out _ HB3.out⟩
  | false =>
    go_wp2_with (first
      | (with_reducible refine wpList_load_guarded (o := ⟨some 22, _, _, _, _, _⟩) (by kernel_rfl) 25 _ rfl w.heap.size rfl 25 _ (0, 0) _ HA3.out Try.underlying25 rfl SE.out ?_))
    refine (HCK.out w3 HB3.out).mono ?_
    rintro e w4 ⟨rfl, hb4⟩
    have HB4 := Lib.hid (HB3.out.trans (hb4.mono HB3.out.size))
    have HC3 := Lib.hid (check_three n0)
    clear hb4 HB3 HA3 HCK
    by_cases hck : checkN n0 = 0
    · rw [hck]
      have hf := (check_ok hck).1
      have HRS := Lib.hid (form_rising hf)
      have HF0 := Lib.hid (find_first hf)
      have HMID := Lib.hid (find_mid (form_rising hf))
      have HTH := Lib.hid (fun i k (h : n0.ks[i]? = some k) => find_there (form_rising hf) h)
      have HFD2 := Lib.hid (fun key W b => HFD.out (form_rising hf) key W b)
      have HFA := Lib.hid (show ∀ key, findA n0 key = ((rankK n0.ks key : Int) + (if hasK n0.ks key && !n0.lf then 1 else 0), hasK n0.ks key) from fun _ => rfl)
      have HHK := Lib.hid (show ∀ key, hasK n0.ks key = n0.ks.any (fun x => decide (x = key)) from fun _ => rfl)
      clear hck hf HFD HC3
      obtain ⟨N, hN⟩ : ∃ N, n0.ks.length = N := ⟨_, rfl⟩
      have HN := Lib.hid hN
      rw [hN] at HAT SE HBS kI kN HFD2 HMID ⊢
      obtain ⟨lf, hlf⟩ : ∃ lf, n0.lf = lf := ⟨_, rfl⟩
      rw [hlf] at HAT SE HFD2 HFA ⊢
      clear hlf hN
      obtain ⟨_, c1, _, _⟩ := node_at (HAT.out w4 HB4.out)
      go_wp2_with fail
      clear c1
      go_loopw [5, 6, 7, 8, 9, 29] (fun _ _ _ _ _ v29 wr => ∃ i : Nat, i ≤ N ∧ v29 = .int .i64 (i : Int) ∧ Below w1.heap.size w1 wr) (fun _ _ _ _ _ v _ => N - (intOf v).toNat)
      case atStart => exact ⟨0, by omega, rfl, HB4.out⟩
      case round =>
        clear HB4
        obtain ⟨i, hi, rfl, hB⟩ := hrel
        by_cases hlt : i < N
        · obtain ⟨x, hx⟩ : ∃ x, n0.ks[i]? = some x := ⟨_, List.getElem?_eq_getElem (by have := HN.out; omega)⟩
          obtain rfl := HBS.out (by omega)
          have gx0 := HCL.out i x hx wr hB
          have hix := index_sl bx off N ck i hlt
          have HFI := Lib.hid (HFD2.out x wr hB)
          have HFE := Lib.hid (show findA n0 x = ((i : Int) + (if !lf then 1 else 0), true) by
            obtain ⟨h1, h2⟩ := HTH.out i x hx
            rw [HFA.out, h1, h2]; simp)
          rw [HFE.out] at HFI
          have HA := Lib.hid (HAT.out wr hB)
          obtain ⟨c0, _, _, _⟩ := node_at HA.out
          have HLT := Lib.hid hlt
          have HB := Lib.hid hB
          have iI : (i : Int) < (N : Int) := by omega
          have i0 : (0 : Int) ≤ (i : Int) := by omega
          clear hi hlt hx hB HFE
          cases lf with
          | true =>
            rw [show ((i : Int) + (if (!true) = true then 1 else 0)) = (i : Int) by simp] at HFI
            go_wp2_with (first
              | (with_reducible refine wpList_load_row (o := ⟨some 41, _, _, _, _, _⟩) rfl 25 _ rfl w.heap.size rfl 25 _ (0, 0) _ HA.out Try.underlying25 rfl SE.out ?_))
            refine HFI.out.mono ?_
            rintro e w5 ⟨rfl, hb5⟩
            have HB5 := Lib.hid (HB.out.trans (hb5.mono HB.out.size))
            clear hb5 HFI HA c0 gx0
            go_wp2_with fail
            go_roundw
            case rel => exact ⟨i + 1, by have := HLT.out; omega, by go_num, HB5.out⟩
            case measure => simp [intOf]; have := HLT.out; omega
          | false =>
            rw [show ((i : Int) + (if (!false) = true then 1 else 0)) = (i : Int) + 1 by simp] at HFI
            go_wp2_with (first
              | (with_reducible refine wpList_load_row (o := ⟨some 41, _, _, _, _, _⟩) rfl 25 _ rfl w.heap.size rfl 25 _ (0, 0) _ HA.out Try.underlying25 rfl SE.out ?_))
            refine HFI.out.mono ?_
            rintro e w5 ⟨rfl, hb5⟩
            have HB5 := Lib.hid (HB.out.trans (hb5.mono HB.out.size))
            clear hb5 HFI HA c0 gx0
            go_wp2_with fail
            go_roundw
            case rel => exact ⟨i + 1, by have := HLT.out; omega, by go_num, HB5.out⟩
            case measure => simp [intOf]; have := HLT.out; omega
        · obtain rfl : i = N := by omega
          have HB := Lib.hid hB
          have HA := Lib.hid (HAT.out wr hB)
          have HFI := Lib.hid (HFD2.out s1 wr hB)
          obtain ⟨a, ha, haN, hm1, hm2⟩ := HMID.out s1
          rw [ha] at HFI
          have HHV := Lib.hid (show (findA n0 s1).2 = n0.ks.any (fun x => decide (x = s1)) from HHK.out s1)
          rw [HHV.out] at HFI
          have HM1 := Lib.hid hm1
          have HM2 := Lib.hid hm2
          have aI : (a : Int) ≤ (i : Int) := by omega
          have a0 : (0 : Int) ≤ (a : Int) := by omega
          have HAN := Lib.hid haN
          obtain ⟨hv, hhv⟩ : ∃ hv, n0.ks.any (fun x => decide (x = s1)) = hv := ⟨_, rfl⟩
          rw [hhv] at HFI
          have HV := Lib.hid hhv
          clear hi hlt hB hm1 hm2 ha haN HHV hhv
          go_wp2_with (first
            | (with_reducible refine wpList_load_row (o := ⟨some 55, _, _, _, _, _⟩) rfl 25 _ rfl w.heap.size rfl 25 _ (0, 0) _ HA.out Try.underlying25 rfl SE.out ?_))
          refine HFI.out.mono ?_
          rintro e w5 ⟨rfl, hb5⟩
          have HB5 := Lib.hid (HB.out.trans (hb5.mono HB.out.size))
          obtain ⟨_, c1, _, _⟩ := node_at (HAT.out w5 HB5.out)
          clear hb5 HFI HA HB
          have hlow : a = 0 ∨ ∃ a' : Nat, (a : Int) - 1 = (a' : Int) ∧ a' < i ∧ (0 : Int) < (a : Int) ∧ ∃ x, n0.ks[a']? = some x ∧ ((Op.bytesLess x.toList s1.toList = true ∧ (x.toList == s1.toList) = false) ∨ (Op.bytesLess x.toList s1.toList = false ∧ (x.toList == s1.toList) = true)) := by
            rcases Nat.eq_zero_or_pos a with e | e
            · exact .inl e
            · refine .inr ⟨a - 1, by omega, by have := HAN.out; omega, by omega, ?_⟩
              obtain ⟨x, hx⟩ : ∃ x, n0.ks[a - 1]? = some x := ⟨_, List.getElem?_eq_getElem (by have := HN.out; have := HAN.out; omega)⟩
              refine ⟨x, hx, ?_⟩
              have h1 := HM1.out x e hx
              rcases str_three s1 x with ⟨h2, _, _⟩ | ⟨_, h2, h3⟩ | ⟨_, h2, h3⟩
              · rw [show lo s1 x = Op.bytesLess s1.toList x.toList from rfl, h1] at h2; cases h2
              · exact .inl ⟨h2, h3⟩
              · exact .inr ⟨h2, h3⟩
          have hhigh : a = i ∨ ∃ y, a < i ∧ n0.ks[a]? = some y ∧ Op.bytesLess y.toList s1.toList = false := by
            rcases Nat.lt_or_ge a i with e | e
            · obtain ⟨y, hy⟩ : ∃ y, n0.ks[a]? = some y := ⟨_, List.getElem?_eq_getElem (by have := HN.out; omega)⟩
              exact .inr ⟨y, e, hy, HM2.out y hy⟩
            · exact .inl (by have := HAN.out; omega)
          have HLO := Lib.hid hlow
          have HHI := Lib.hid hhigh
          clear hlow hhigh HM1 HM2 HMID
          rcases HLO.out with h0 | ⟨a', hsub, ha', hpos, x, hx, ⟨q1, q2⟩ | ⟨q1, q2⟩⟩
          · rcases HHI.out with hh | ⟨y, hai, hy, q3⟩
            all_goals clear HLO HHI
            · have l1 : decide (0 < a) = false := by rw [h0]; rfl
              clear h0
              have l2 : decide (a < i) = false := by rw [decide_eq_false_iff_not]; omega
              clear hh
              have l3 : decide (i < a) = false := by rw [decide_eq_false_iff_not]; have := HAN.out; omega
              go_wp2_with fail
              clear c1
              go_loopw [12, 14, 102] (fun v12 _ v102 wr => ∃ j : Nat, j ≤ i ∧ v102 = .int .i64 (j : Int) ∧ v12 = .bool ((n0.ks.take j).any (fun x => decide (x = s1))) ∧ Below w1.heap.size w1 wr) (fun _ _ v _ => i - (intOf v).toNat)
              case atStart => exact ⟨0, by omega, rfl, rfl, HB5.out⟩
              case round =>
                clear HB5
                obtain ⟨j, hj, rfl, rfl, hB⟩ := hrel
                by_cases hlt : j < i
                · obtain ⟨x2, hx2⟩ : ∃ x, n0.ks[j]? = some x := ⟨_, List.getElem?_eq_getElem (by have := HN.out; omega)⟩
                  obtain rfl := HBS.out (by omega)
                  have gx2 := HCL.out j x2 hx2 wr hB
                  have hix2 := index_sl bx off i ck j hlt
                  have HNX := Lib.hid (show (n0.ks.take (j + 1)).any (fun x => decide (x = s1)) = ((n0.ks.take j).any (fun x => decide (x = s1)) || decide (x2 = s1)) by
                    rw [List.take_add_one, hx2, List.any_append]; simp)
                  have HLT := Lib.hid hlt
                  have HB := Lib.hid hB
                  have iI : (j : Int) < (i : Int) := by omega
                  have i0 : (0 : Int) ≤ (j : Int) := by omega
                  have HEQ := Lib.hid (str_beq x2 s1)
                  clear hj hlt hx2 hB
                  generalize (n0.ks.take j).any (fun x => decide (x = s1)) = bj at *
                  cases bj with
                  | true =>
                    go_wp2_with fail
                    go_roundw
                    case rel => exact ⟨j + 1, by have := HLT.out; omega, by go_num, by rw [HNX.out]; rfl, HB.out⟩
                    case measure => simp [intOf]; have := HLT.out; omega
                  | false =>
                    go_wp2_with fail
                    go_roundw
                    case rel => exact ⟨j + 1, by have := HLT.out; omega, by go_num, by rw [HNX.out, ← HEQ.out]; simp, HB.out⟩
                    case measure => simp [intOf]; have := HLT.out; omega
                · obtain rfl : j = i := by omega
                  have HA := Lib.hid (HAT.out wr hB)
                  have HFZ := Lib.hid (HFD2.out ⟨#[]⟩ wr hB)
                  rw [HF0.out] at HFZ
                  have HBZ := Lib.hid hB
                  rw [show n0.ks.take j = n0.ks from List.take_of_length_le (by have := HN.out; omega), HV.out]
                  clear hj hlt hB
                  go_wp2_with (first
                    | (with_reducible refine wpList_load_row (o := ⟨some 114, _, _, _, _, _⟩) rfl 25 _ rfl w.heap.size rfl 25 _ (0, 0) _ HA.out Try.underlying25 rfl SE.out ?_))
                  refine HFZ.out.mono ?_
                  rintro e w6 ⟨rfl, hb6⟩
                  have HB6 := Lib.hid (HBZ.out.trans (hb6.mono HBZ.out.size))
                  clear hb6 HFZ HA HBZ
                  cases hv <;>
                  · go_wp2_with fail
                    go_ret
                    exact ⟨rfl, HBW.out _ HB6.out⟩
            · have l1 : decide (0 < a) = false := by rw [h0]; rfl
              clear h0
              obtain rfl := HBS.out (by omega)
              have gy1 := HCL.out a y hy w5 HB5.out
              have hix2 := index_sl bx off i ck a hai
              have l2 : decide (a < i) = true := by rw [decide_eq_true_iff]; exact hai
              have aiI : (a : Int) < (i : Int) := by omega
              clear hy hai
              have l3 : decide (i < a) = false := by rw [decide_eq_false_iff_not]; have := HAN.out; omega
              go_wp2_with fail
              clear c1
              go_loopw [12, 14, 102] (fun v12 _ v102 wr => ∃ j : Nat, j ≤ i ∧ v102 = .int .i64 (j : Int) ∧ v12 = .bool ((n0.ks.take j).any (fun x => decide (x = s1))) ∧ Below w1.heap.size w1 wr) (fun _ _ v _ => i - (intOf v).toNat)
              case atStart => exact ⟨0, by omega, rfl, rfl, HB5.out⟩
              case round =>
                clear HB5
                obtain ⟨j, hj, rfl, rfl, hB⟩ := hrel
                by_cases hlt : j < i
                · obtain ⟨x2, hx2⟩ : ∃ x, n0.ks[j]? = some x := ⟨_, List.getElem?_eq_getElem (by have := HN.out; omega)⟩
                  skip
                  have gx2 := HCL.out j x2 hx2 wr hB
                  have hix2 := index_sl bx off i ck j hlt
                  have HNX := Lib.hid (show (n0.ks.take (j + 1)).any (fun x => decide (x = s1)) = ((n0.ks.take j).any (fun x => decide (x = s1)) || decide (x2 = s1)) by
                    rw [List.take_add_one, hx2, List.any_append]; simp)
                  have HLT := Lib.hid hlt
                  have HB := Lib.hid hB
                  have iI : (j : Int) < (i : Int) := by omega
                  have i0 : (0 : Int) ≤ (j : Int) := by omega
                  have HEQ := Lib.hid (str_beq x2 s1)
                  clear hj hlt hx2 hB
                  generalize (n0.ks.take j).any (fun x => decide (x = s1)) = bj at *
                  cases bj with
                  | true =>
                    go_wp2_with fail
                    go_roundw
                    case rel => exact ⟨j + 1, by have := HLT.out; omega, by go_num, by rw [HNX.out]; rfl, HB.out⟩
                    case measure => simp [intOf]; have := HLT.out; omega
                  | false =>
                    go_wp2_with fail
                    go_roundw
                    case rel => exact ⟨j + 1, by have := HLT.out; omega, by go_num, by rw [HNX.out, ← HEQ.out]; simp, HB.out⟩
                    case measure => simp [intOf]; have := HLT.out; omega
                · obtain rfl : j = i := by omega
                  have HA := Lib.hid (HAT.out wr hB)
                  have HFZ := Lib.hid (HFD2.out ⟨#[]⟩ wr hB)
                  rw [HF0.out] at HFZ
                  have HBZ := Lib.hid hB
                  rw [show n0.ks.take j = n0.ks from List.take_of_length_le (by have := HN.out; omega), HV.out]
                  clear hj hlt hB
                  go_wp2_with (first
                    | (with_reducible refine wpList_load_row (o := ⟨some 114, _, _, _, _, _⟩) rfl 25 _ rfl w.heap.size rfl 25 _ (0, 0) _ HA.out Try.underlying25 rfl SE.out ?_))
                  refine HFZ.out.mono ?_
                  rintro e w6 ⟨rfl, hb6⟩
                  have HB6 := Lib.hid (HBZ.out.trans (hb6.mono HBZ.out.size))
                  clear hb6 HFZ HA HBZ
                  cases hv <;>
                  · go_wp2_with fail
                    go_ret
                    exact ⟨rfl, HBW.out _ HB6.out⟩
          · rcases HHI.out with hh | ⟨y, hai, hy, q3⟩
            all_goals clear HLO HHI
            · obtain rfl := HBS.out (by omega)
              have gx1 := HCL.out a' x hx w5 HB5.out
              have hix1 := index_sl bx off i ck a' ha'
              have l1 : decide (0 < a) = true := by rw [decide_eq_true_iff]; omega
              have a'I : (a' : Int) < (i : Int) := by omega
              have a'0 : (0 : Int) ≤ (a' : Int) := by omega
              clear hx ha' hpos
              have l2 : decide (a < i) = false := by rw [decide_eq_false_iff_not]; omega
              clear hh
              have l3 : decide (i < a) = false := by rw [decide_eq_false_iff_not]; have := HAN.out; omega
              go_wp2_with fail
              clear c1
              go_loopw [12, 14, 102] (fun v12 _ v102 wr => ∃ j : Nat, j ≤ i ∧ v102 = .int .i64 (j : Int) ∧ v12 = .bool ((n0.ks.take j).any (fun x => decide (x = s1))) ∧ Below w1.heap.size w1 wr) (fun _ _ v _ => i - (intOf v).toNat)
              case atStart => exact ⟨0, by omega, rfl, rfl, HB5.out⟩
              case round =>
                clear HB5
                obtain ⟨j, hj, rfl, rfl, hB⟩ := hrel
                by_cases hlt : j < i
                · obtain ⟨x2, hx2⟩ : ∃ x, n0.ks[j]? = some x := ⟨_, List.getElem?_eq_getElem (by have := HN.out; omega)⟩
                  skip
                  have gx2 := HCL.out j x2 hx2 wr hB
                  have hix2 := index_sl bx off i ck j hlt
                  have HNX := Lib.hid (show (n0.ks.take (j + 1)).any (fun x => decide (x = s1)) = ((n0.ks.take j).any (fun x => decide (x = s1)) || decide (x2 = s1)) by
                    rw [List.take_add_one, hx2, List.any_append]; simp)
                  have HLT := Lib.hid hlt
                  have HB := Lib.hid hB
                  have iI : (j : Int) < (i : Int) := by omega
                  have i0 : (0 : Int) ≤ (j : Int) := by omega
                  have HEQ := Lib.hid (str_beq x2 s1)
                  clear hj hlt hx2 hB
                  generalize (n0.ks.take j).any (fun x => decide (x = s1)) = bj at *
                  cases bj with
                  | true =>
                    go_wp2_with fail
                    go_roundw
                    case rel => exact ⟨j + 1, by have := HLT.out; omega, by go_num, by rw [HNX.out]; rfl, HB.out⟩
                    case measure => simp [intOf]; have := HLT.out; omega
                  | false =>
                    go_wp2_with fail
                    go_roundw
                    case rel => exact ⟨j + 1, by have := HLT.out; omega, by go_num, by rw [HNX.out, ← HEQ.out]; simp, HB.out⟩
                    case measure => simp [intOf]; have := HLT.out; omega
                · obtain rfl : j = i := by omega
                  have HA := Lib.hid (HAT.out wr hB)
                  have HFZ := Lib.hid (HFD2.out ⟨#[]⟩ wr hB)
                  rw [HF0.out] at HFZ
                  have HBZ := Lib.hid hB
                  rw [show n0.ks.take j = n0.ks from List.take_of_length_le (by have := HN.out; omega), HV.out]
                  clear hj hlt hB
                  go_wp2_with (first
                    | (with_reducible refine wpList_load_row (o := ⟨some 114, _, _, _, _, _⟩) rfl 25 _ rfl w.heap.size rfl 25 _ (0, 0) _ HA.out Try.underlying25 rfl SE.out ?_))
                  refine HFZ.out.mono ?_
                  rintro e w6 ⟨rfl, hb6⟩
                  have HB6 := Lib.hid (HBZ.out.trans (hb6.mono HBZ.out.size))
                  clear hb6 HFZ HA HBZ
                  cases hv <;>
                  · go_wp2_with fail
                    go_ret
                    exact ⟨rfl, HBW.out _ HB6.out⟩
            · obtain rfl := HBS.out (by omega)
              have gx1 := HCL.out a' x hx w5 HB5.out
              have hix1 := index_sl bx off i ck a' ha'
              have l1 : decide (0 < a) = true := by rw [decide_eq_true_iff]; omega
              have a'I : (a' : Int) < (i : Int) := by omega
              have a'0 : (0 : Int) ≤ (a' : Int) := by omega
              clear hx ha' hpos
              have gy1 := HCL.out a y hy w5 HB5.out
              have hix2 := index_sl bx off i ck a hai
              have l2 : decide (a < i) = true := by rw [decide_eq_true_iff]; exact hai
              have aiI : (a : Int) < (i : Int) := by omega
              clear hy hai
              have l3 : decide (i < a) = false := by rw [decide_eq_false_iff_not]; have := HAN.out; omega
              go_wp2_with fail
              clear c1
              go_loopw [12, 14, 102] (fun v12 _ v102 wr => ∃ j : Nat, j ≤ i ∧ v102 = .int .i64 (j : Int) ∧ v12 = .bool ((n0.ks.take j).any (fun x => decide (x = s1))) ∧ Below w1.heap.size w1 wr) (fun _ _ v _ => i - (intOf v).toNat)
              case atStart => exact ⟨0, by omega, rfl, rfl, HB5.out⟩
              case round =>
                clear HB5
                obtain ⟨j, hj, rfl, rfl, hB⟩ := hrel
                by_cases hlt : j < i
                · obtain ⟨x2, hx2⟩ : ∃ x, n0.ks[j]? = some x := ⟨_, List.getElem?_eq_getElem (by have := HN.out; omega)⟩
                  skip
                  have gx2 := HCL.out j x2 hx2 wr hB
                  have hix2 := index_sl bx off i ck j hlt
                  have HNX := Lib.hid (show (n0.ks.take (j + 1)).any (fun x => decide (x = s1)) = ((n0.ks.take j).any (fun x => decide (x = s1)) || decide (x2 = s1)) by
                    rw [List.take_add_one, hx2, List.any_append]; simp)
                  have HLT := Lib.hid hlt
                  have HB := Lib.hid hB
                  have iI : (j : Int) < (i : Int) := by omega
                  have i0 : (0 : Int) ≤ (j : Int) := by omega
                  have HEQ := Lib.hid (str_beq x2 s1)
                  clear hj hlt hx2 hB
                  generalize (n0.ks.take j).any (fun x => decide (x = s1)) = bj at *
                  cases bj with
                  | true =>
                    go_wp2_with fail
                    go_roundw
                    case rel => exact ⟨j + 1, by have := HLT.out; omega, by go_num, by rw [HNX.out]; rfl, HB.out⟩
                    case measure => simp [intOf]; have := HLT.out; omega
                  | false =>
                    go_wp2_with fail
                    go_roundw
                    case rel => exact ⟨j + 1, by have := HLT.out; omega, by go_num, by rw [HNX.out, ← HEQ.out]; simp, HB.out⟩
                    case measure => simp [intOf]; have := HLT.out; omega
                · obtain rfl : j = i := by omega
                  have HA := Lib.hid (HAT.out wr hB)
                  have HFZ := Lib.hid (HFD2.out ⟨#[]⟩ wr hB)
                  rw [HF0.out] at HFZ
                  have HBZ := Lib.hid hB
                  rw [show n0.ks.take j = n0.ks from List.take_of_length_le (by have := HN.out; omega), HV.out]
                  clear hj hlt hB
                  go_wp2_with (first
                    | (with_reducible refine wpList_load_row (o := ⟨some 114, _, _, _, _, _⟩) rfl 25 _ rfl w.heap.size rfl 25 _ (0, 0) _ HA.out Try.underlying25 rfl SE.out ?_))
                  refine HFZ.out.mono ?_
                  rintro e w6 ⟨rfl, hb6⟩
                  have HB6 := Lib.hid (HBZ.out.trans (hb6.mono HBZ.out.size))
                  clear hb6 HFZ HA HBZ
                  cases hv <;>
                  · go_wp2_with fail
                    go_ret
                    exact ⟨rfl, HBW.out _ HB6.out⟩
          · rcases HHI.out with hh | ⟨y, hai, hy, q3⟩
            all_goals clear HLO HHI
            · obtain rfl := HBS.out (by omega)
              have gx1 := HCL.out a' x hx w5 HB5.out
              have hix1 := index_sl bx off i ck a' ha'
              have l1 : decide (0 < a) = true := by rw [decide_eq_true_iff]; omega
              have a'I : (a' : Int) < (i : Int) := by omega
              have a'0 : (0 : Int) ≤ (a' : Int) := by omega
              clear hx ha' hpos
              have l2 : decide (a < i) = false := by rw [decide_eq_false_iff_not]; omega
              clear hh
              have l3 : decide (i < a) = false := by rw [decide_eq_false_iff_not]; have := HAN.out; omega
              go_wp2_with fail
              clear c1
              go_loopw [12, 14, 102] (fun v12 _ v102 wr => ∃ j : Nat, j ≤ i ∧ v102 = .int .i64 (j : Int) ∧ v12 = .bool ((n0.ks.take j).any (fun x => decide (x = s1))) ∧ Below w1.heap.size w1 wr) (fun _ _ v _ => i - (intOf v).toNat)
              case atStart => exact ⟨0, by omega, rfl, rfl, HB5.out⟩
              case round =>
                clear HB5
                obtain ⟨j, hj, rfl, rfl, hB⟩ := hrel
                by_cases hlt : j < i
                · obtain ⟨x2, hx2⟩ : ∃ x, n0.ks[j]? = some x := ⟨_, List.getElem?_eq_getElem (by have := HN.out; omega)⟩
                  skip
                  have gx2 := HCL.out j x2 hx2 wr hB
                  have hix2 := index_sl bx off i ck j hlt
                  have HNX := Lib.hid (show (n0.ks.take (j + 1)).any (fun x => decide (x = s1)) = ((n0.ks.take j).any (fun x => decide (x = s1)) || decide (x2 = s1)) by
                    rw [List.take_add_one, hx2, List.any_append]; simp)
                  have HLT := Lib.hid hlt
                  have HB := Lib.hid hB
                  have iI : (j : Int) < (i : Int) := by omega
                  have i0 : (0 : Int) ≤ (j : Int) := by omega
                  have HEQ := Lib.hid (str_beq x2 s1)
                  clear hj hlt hx2 hB
                  generalize (n0.ks.take j).any (fun x => decide (x = s1)) = bj at *
                  cases bj with
                  | true =>
                    go_wp2_with fail
                    go_roundw
                    case rel => exact ⟨j + 1, by have := HLT.out; omega, by go_num, by rw [HNX.out]; rfl, HB.out⟩
                    case measure => simp [intOf]; have := HLT.out; omega
                  | false =>
                    go_wp2_with fail
                    go_roundw
                    case rel => exact ⟨j + 1, by have := HLT.out; omega, by go_num, by rw [HNX.out, ← HEQ.out]; simp, HB.out⟩
                    case measure => simp [intOf]; have := HLT.out; omega
                · obtain rfl : j = i := by omega
                  have HA := Lib.hid (HAT.out wr hB)
                  have HFZ := Lib.hid (HFD2.out ⟨#[]⟩ wr hB)
                  rw [HF0.out] at HFZ
                  have HBZ := Lib.hid hB
                  rw [show n0.ks.take j = n0.ks from List.take_of_length_le (by have := HN.out; omega), HV.out]
                  clear hj hlt hB
                  go_wp2_with (first
                    | (with_reducible refine wpList_load_row (o := ⟨some 114, _, _, _, _, _⟩) rfl 25 _ rfl w.heap.size rfl 25 _ (0, 0) _ HA.out Try.underlying25 rfl SE.out ?_))
                  refine HFZ.out.mono ?_
                  rintro e w6 ⟨rfl, hb6⟩
                  have HB6 := Lib.hid (HBZ.out.trans (hb6.mono HBZ.out.size))
                  clear hb6 HFZ HA HBZ
                  cases hv <;>
                  · go_wp2_with fail
                    go_ret
                    exact ⟨rfl, HBW.out _ HB6.out⟩
            · obtain rfl := HBS.out (by omega)
              have gx1 := HCL.out a' x hx w5 HB5.out
              have hix1 := index_sl bx off i ck a' ha'
              have l1 : decide (0 < a) = true := by rw [decide_eq_true_iff]; omega
              have a'I : (a' : Int) < (i : Int) := by omega
              have a'0 : (0 : Int) ≤ (a' : Int) := by omega
              clear hx ha' hpos
              have gy1 := HCL.out a y hy w5 HB5.out
              have hix2 := index_sl bx off i ck a hai
              have l2 : decide (a < i) = true := by rw [decide_eq_true_iff]; exact hai
              have aiI : (a : Int) < (i : Int) := by omega
              clear hy hai
              have l3 : decide (i < a) = false := by rw [decide_eq_false_iff_not]; have := HAN.out; omega
              go_wp2_with fail
              clear c1
              go_loopw [12, 14, 102] (fun v12 _ v102 wr => ∃ j : Nat, j ≤ i ∧ v102 = .int .i64 (j : Int) ∧ v12 = .bool ((n0.ks.take j).any (fun x => decide (x = s1))) ∧ Below w1.heap.size w1 wr) (fun _ _ v _ => i - (intOf v).toNat)
              case atStart => exact ⟨0, by omega, rfl, rfl, HB5.out⟩
              case round =>
                clear HB5
                obtain ⟨j, hj, rfl, rfl, hB⟩ := hrel
                by_cases hlt : j < i
                · obtain ⟨x2, hx2⟩ : ∃ x, n0.ks[j]? = some x := ⟨_, List.getElem?_eq_getElem (by have := HN.out; omega)⟩
                  skip
                  have gx2 := HCL.out j x2 hx2 wr hB
                  have hix2 := index_sl bx off i ck j hlt
                  have HNX := Lib.hid (show (n0.ks.take (j + 1)).any (fun x => decide (x = s1)) = ((n0.ks.take j).any (fun x => decide (x = s1)) || decide (x2 = s1)) by
                    rw [List.take_add_one, hx2, List.any_append]; simp)
                  have HLT := Lib.hid hlt
                  have HB := Lib.hid hB
                  have iI : (j : Int) < (i : Int) := by omega
                  have i0 : (0 : Int) ≤ (j : Int) := by omega
                  have HEQ := Lib.hid (str_beq x2 s1)
                  clear hj hlt hx2 hB
                  generalize (n0.ks.take j).any (fun x => decide (x = s1)) = bj at *
                  cases bj with
                  | true =>
                    go_wp2_with fail
                    go_roundw
                    case rel => exact ⟨j + 1, by have := HLT.out; omega, by go_num, by rw [HNX.out]; rfl, HB.out⟩
                    case measure => simp [intOf]; have := HLT.out; omega
                  | false =>
                    go_wp2_with fail
                    go_roundw
                    case rel => exact ⟨j + 1, by have := HLT.out; omega, by go_num, by rw [HNX.out, ← HEQ.out]; simp, HB.out⟩
                    case measure => simp [intOf]; have := HLT.out; omega
                · obtain rfl : j = i := by omega
                  have HA := Lib.hid (HAT.out wr hB)
                  have HFZ := Lib.hid (HFD2.out ⟨#[]⟩ wr hB)
                  rw [HF0.out] at HFZ
                  have HBZ := Lib.hid hB
                  rw [show n0.ks.take j = n0.ks from List.take_of_length_le (by have := HN.out; omega), HV.out]
                  clear hj hlt hB
                  go_wp2_with (first
                    | (with_reducible refine wpList_load_row (o := ⟨some 114, _, _, _, _, _⟩) rfl 25 _ rfl w.heap.size rfl 25 _ (0, 0) _ HA.out Try.underlying25 rfl SE.out ?_))
                  refine HFZ.out.mono ?_
                  rintro e w6 ⟨rfl, hb6⟩
                  have HB6 := Lib.hid (HBZ.out.trans (hb6.mono HBZ.out.size))
                  clear hb6 HFZ HA HBZ
                  cases hv <;>
                  · go_wp2_with fail
                    go_ret
                    exact ⟨rfl, HBW.out _ HB6.out⟩
    · have hcb : (checkN n0 == 0) = false := by simpa using hck
      go_wp2_with fail
      go_ret
      exact ⟨rfl, HBW.out _ HB4.out⟩
set_option maxRecDepth 100000 in
theorem lifted (os : Os) (started : os.Started) (H : Type) (enc : TypeId × Value → H) :
    ReturnsInHanded {} Try.checked os 7 .any (Rows.nodePlacesSpec.pre6 enc Try.prog Try.f7 Rows.nodePlacesRow.domain false) (Rows.nodePlacesSpec.post enc Try.prog Try.f7 false true false false) := by
  refine returnsInHanded_of_change_sized (C := Try.checked) own started (by kernel_rfl) Try.func7
    (ChangeSpec.witness6 (enc := enc) (C := Try.checked) false ⟨#[], #[.agg #[.bool false, .slice none 0 0, .slice none 0 0, .slice none 0 0], .string ⟨#[]⟩], []⟩ 8 (by kernel_rfl) (by kernel_rfl) (by kernel_rfl) (by kernel_rfl)) ?_
  intro W base args ds gs before hval0 hW hcnd hsz0 _
  have hsz : (DataW.weightsEach Try.prog (Try.f7.params.toList ++ Rows.nodePlacesSpec.plain.varTypes Try.prog) (ds ++ gs)).all (· ≤ reachBytes) = true := hsz0
  clear hsz0
  have hval : ∀ (j : Nat) t v, Try.f7.params[j]? = some t → args[j]? = some v → Value.okWide Try.prog W .any base t v := hval0
  have hW' := hW
  obtain ⟨p, q, hA0, hV, rfl, hfz, hnd⟩ := hW
  have hA : DataW.TrodAll enc Try.prog W 0 (fun _ => true) true Try.f7.params.toList args.toList ds p := hA0
  rw [Try.params7] at hA hval hsz
  obtain ⟨v0, vs0, d0, ds0, p0, q0, hargs, rfl, rfl, h0, r0⟩ := trodAll_cons hA
  obtain ⟨v1, vs1, d1, ds1, p1, q1, rfl, rfl, rfl, h1, r1⟩ := trodAll_cons r0
  obtain ⟨rfl, rfl, rfl⟩ := trodAll_nil r1
  obtain rfl : args = #[v0, v1] := by cases args; simp_all
  obtain ⟨rfl, rfl⟩ := trodVars_none hV
  have k0 := h0
  have lt0 : ∀ x ∈ p0, x.block < W.heap.size := by obtain ⟨m, hm⟩ := k0; exact DataW.trod_lt m _ _ _ hm
  have k1 := h1
  have lt1 : ∀ x ∈ p1, x.block < W.heap.size := by obtain ⟨m, hm⟩ := k1; exact DataW.trod_lt m _ _ _ hm
  obtain ⟨kk0, vv0, pp0, n0, rfl, nr0, nb0⟩ := par_node (j := 0) (hval 0 25 v0 rfl rfl) h0 hsz rfl rfl
  obtain ⟨s1, rfl, z1⟩ := par_str (j := 1) Try.underlying9 (hval 1 9 v1 rfl rfl) h1 hsz rfl rfl
  clear hA0 hval0
  simp only [List.append_nil] at hW'
  refine (walk W kk0 vv0 pp0 n0 nr0 nb0 s1 z1).mono fun e W' ⟨he, bel⟩ => ?_
  subst he
  exact ⟨_, rfl, _, _, _, [], _, [], hW', trodAll_mk1 (shut_bool Try.underlying4 _), (trodAll_cons_mk (Below.trod laidOut (by kernel_rfl) (of_decide_eq_true (by kernel_rfl)) k0 bel lt0) (trodAll_cons_mk (Below.trod laidOut (by kernel_rfl) (of_decide_eq_true (by kernel_rfl)) k1 bel lt1) trodAll_mk0)), rfl, bel.frame _, fun h => by cases h⟩

theorem over : Rows.nodePlacesRow.holds Try.pinned (OpenSpec.ofChange Rows.nodePlacesSpec) :=
  OpenClaim.holds_of_wide 7 Try.f7 rfl rfl rfl rfl rfl rfl rfl ⟨rfl, rfl, rfl, rfl, rfl⟩ rfl rfl rfl rfl rfl (by kernel_rfl) Try.func7 (by kernel_rfl)
    (of_decide_eq_true (by kernel_rfl)) (by unfold Func.isWrapper; first | (rw [if_pos (by decide +kernel)]; kernel_rfl) | (rw [if_neg (by decide +kernel)]; exact ⟨rfl, rfl⟩))
    (fun os started H enc _ => lifted os started H enc)

/-- The statement. -/
theorem proved : Rows.NodePlacesSaid := over
#print axioms proved
end Go.Proofs.Ytcgddhainmnebaa.nodePlaces
