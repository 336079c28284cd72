/-
  What layer 9's laws share: the chapter's examples; whether a node is more than is looked at.
-/
import Derived.Test.YtcgddhainmnebaaNp
import Derived.Test.YtcgddhainmnebaaNf
namespace Go.Proofs.Ytcgddhainmnebaa
set_option maxRecDepth 4000
set_option linter.unusedVariables false
open Go.ChangeShapes Go.WideShapes Go.ChangeAt Go.RowKit

/-- No more than is looked at. -/
def Few (n : NodeV) : Prop := n.ks.length ≤ 200 ∧ n.vs.length ≤ 200 ∧ n.ps.length ≤ 136
theorem wrap_in (x : Int) (h0 : -9223372036854775808 ≤ x) (h1 : x ≤ 9223372036854775807) : wrap64 x = x := by
  have e := IntWalk.i64_in x (by omega)
  rw [IntKind.wrap_i64] at e
  unfold wrap64
  exact e
set_option maxRecDepth 100000 in
set_option maxHeartbeats 3200000 in
theorem great9_any (k v p : Value) (n : NodeV) (w : World) (h : NR w k v p n) (hn : NB n) :
    Calls Try.prog 13 #[.agg #[.bool n.lf, k, v, p]] w fun e w' => ∃ b, e = .returned (.bool b) ∧ (b = false → Few n) ∧ Below w.heap.size w w' := by
  obtain ⟨lf, l, m, q⟩ := n
  obtain ⟨ak, ck, rfl, _, hk⟩ := h.ks
  obtain ⟨av, cv, rfl, _, hv⟩ := h.vs
  obtain ⟨ap, cp, rfl, hp⟩ := h.ps
  have hkz := hn.kz
  have hvz := hn.vz
  have hpl := hn.pl
  have hkl := hn.kl
  have hvl := hn.vl
  unfold Few
  dsimp only at *
  have HK := Lib.hid hk
  have HV := Lib.hid hv
  have HKZ := Lib.hid hkz
  have HVZ := Lib.hid hvz
  obtain ⟨N, hN⟩ : ∃ N, l.length = N := ⟨_, rfl⟩
  obtain ⟨V, hV⟩ : ∃ V, m.length = V := ⟨_, rfl⟩
  obtain ⟨M, hM⟩ : ∃ M, q.length = M := ⟨_, rfl⟩
  have HN := Lib.hid hN
  have HVL := Lib.hid hV
  rw [hN] at hkl ⊢
  rw [hV] at hvl ⊢
  rw [hM] at hpl ⊢
  have NI : (N : Int) ≤ 140737488351232 := by omega
  have VI : (V : Int) ≤ 140737488351232 := by omega
  have MI : (M : Int) ≤ 140737488351232 := by omega
  have N0 : (0 : Int) ≤ (N : Int) := by omega
  have V0 : (0 : Int) ≤ (V : Int) := by omega
  have M0 : (0 : Int) ≤ (M : Int) := by omega
  clear h hn hk hv hp hkz hvz hpl hkl hvl hN hV hM
  have hb1 := (Below.refl w.heap.size w).alloc (Nat.le_refl _) (.cells #[.bool lf, .slice ak N ck, .slice av V cv, .slice ap M cp] 25)
  obtain ⟨c0, c1, c2, c3⟩ := node_at (heap_alloc_new w (.cells #[.bool lf, .slice ak N ck, .slice av V cv, .slice ap M cp] 25))
  generalize hw1 : w.alloc (.cells #[.bool lf, .slice ak N ck, .slice av V cv, .slice ap M cp] 25) = w1 at *
  have HB1 := Lib.hid hb1
  clear hb1
  go_enter Try.func13, Try.ntmps13
  go_upto_region 1 with fail
  try rw [hw1]
  clear hw1
  go_wp2_with fail
  go_loopw [3, 5, 15] (fun v3 _ v15 wr => ∃ (i : Nat) (z : Int), i ≤ N ∧ v15 = .int .i64 (i : Int) ∧ v3 = .int .i64 z ∧ (N ≤ 200 → V ≤ 200 → (M : Int) * 44 ≤ z ∧ z ≤ (M : Int) * 44 + i * 140737488351232) ∧ wr = w1) (fun _ _ v _ => N - (intOf v).toNat)
  case atStart => exact ⟨0, _, by omega, rfl, rfl, fun _ _ => by omega, rfl⟩
  case round =>
    obtain ⟨i, z, hi, rfl, rfl, hz, hwr⟩ := hrel
    have hwr' := hwr.symm
    subst hwr'
    clear hwr
    by_cases hlt : i < N
    · obtain ⟨x, hx⟩ : ∃ x, l[i]? = some x := ⟨_, List.getElem?_eq_getElem (by have := HN.out; omega)⟩
      obtain ⟨b1, o1, rfl, g1⟩ := HK.out i x hx
      have hix := index_sl b1 o1 N ck i hlt
      have g1' := (HB1.out.cell (p := ⟨b1, o1 + i, none⟩) (block_lt_of_cell g1)).trans g1
      have hxz := HKZ.out x (List.mem_of_getElem? hx)
      have HX := Lib.hid hxz
      have HZ := Lib.hid hz
      have HLT := Lib.hid hlt
      have MB := Lib.hid MI
      have iI : (i : Int) < (N : Int) := by omega
      have i0 : (0 : Int) ≤ (i : Int) := by omega
      clear hi hlt hx g1 hz hxz
      go_wp2_with fail
      go_roundw
      case rel => exact ⟨i + 1, _, by have := HLT.out; omega, by go_num, rfl, fun ha hb => by
        have h1 := HZ.out ha hb
        have h2 := HX.out
        have h3 := HLT.out
        have h4 := MB.out
        rw [wrap_in _ (by omega) (by omega)]
        omega, by trivial⟩
      case measure => simp [intOf]; have := HLT.out; omega
    · obtain rfl : i = N := by omega
      have HZ0 := Lib.hid hz
      clear hi hlt hz
      go_wp2_with fail
      go_loopw [3, 7, 27] (fun v3 _ v27 wr => ∃ (j : Nat) (y : Int), j ≤ V ∧ v27 = .int .i64 (j : Int) ∧ v3 = .int .i64 y ∧ (i ≤ 200 → V ≤ 200 → (M : Int) * 44 ≤ y ∧ y ≤ (M : Int) * 44 + (i + j) * 140737488351232) ∧ wr = w1) (fun _ _ v _ => V - (intOf v).toNat)
      case atStart => exact ⟨0, _, by omega, rfl, rfl, fun a b => by have := HZ0.out a b; omega, rfl⟩
      case round =>
        obtain ⟨j, y, hj, rfl, rfl, hy, hwr⟩ := hrel
        have hwr' := hwr.symm
        subst hwr'
        clear hwr
        by_cases hlt : j < V
        · obtain ⟨x, hx⟩ : ∃ x, m[j]? = some x := ⟨_, List.getElem?_eq_getElem (by have := HVL.out; omega)⟩
          obtain ⟨b1, o1, rfl, g1⟩ := HV.out j x hx
          have hix := index_sl b1 o1 V cv j hlt
          have g1' := (HB1.out.cell (p := ⟨b1, o1 + j, none⟩) (block_lt_of_cell g1)).trans g1
          have hxz := HVZ.out x (List.mem_of_getElem? hx)
          have HX := Lib.hid hxz
          have HZ := Lib.hid hy
          have HLT := Lib.hid hlt
          have MB := Lib.hid MI
          have iI : (j : Int) < (V : Int) := by omega
          have i0 : (0 : Int) ≤ (j : Int) := by omega
          clear hj hlt hx g1 hy hxz
          go_wp2_with fail
          go_roundw
          case rel => exact ⟨j + 1, _, by have := HLT.out; omega, by go_num, rfl, fun ha hb => by
            have h1 := HZ.out ha hb
            have h2 := HX.out
            have h3 := HLT.out
            have h4 := MB.out
            rw [wrap_in _ (by omega) (by omega)]
            omega, by trivial⟩
          case measure => simp [intOf]; have := HLT.out; omega
        · obtain rfl : j = V := by omega
          have HY := Lib.hid hy
          have HI := Lib.hid (And.intro NI VI)
          clear hj hlt hy
          cases h1 : decide ((6000 : Int) < y) with
          | true =>
            go_wp2_with fail
            go_ret
            exact ⟨true, rfl, nofun, HB1.out⟩
          | false =>
            have H1 := Lib.hid h1
            cases h2 : decide ((200 : Int) < (i : Int)) with
            | true =>
              go_wp2_with fail
              go_ret
              exact ⟨true, rfl, nofun, HB1.out⟩
            | false =>
              have H2 := Lib.hid h2
              cases h3 : decide ((200 : Int) < (j : Int)) with
              | true =>
                go_wp2_with fail
                go_ret
                exact ⟨true, rfl, nofun, HB1.out⟩
              | false =>
                have H3 := Lib.hid h3
                go_wp2_with fail
                go_ret
                refine ⟨false, rfl, fun _ => ?_, HB1.out⟩
                have a1 := H1.out
                have a2 := H2.out
                have a3 := H3.out
                simp only [decide_eq_false_iff_not] at a1 a2 a3
                have := HY.out (by omega) (by omega)
                omega
/-! ### the chapter's examples -/
def apP : PtrV := ⟨2, 1, List.replicate 32 0, by decide, by decide, by decide, byt_zeros8 32⟩
def aLeaf : NodeV := ⟨true, [], [], []⟩
def aNode : NodeV := ⟨false, [⟨#[98]⟩, ⟨#[100]⟩], [], [apP, apP, apP]⟩
theorem aLeaf_ok : checkN aLeaf = 0 := by decide
theorem aLeaf_sec : secB aLeaf = 1 :: 0 :: List.replicate 510 0 := by rfl
theorem aNode_ok : checkN aNode = 0 := by decide +kernel +kernel +kernel
theorem aNode_c : findA aNode ⟨#[99]⟩ = (1, false) := by decide +kernel +kernel +kernel
theorem aNode_d : findA aNode ⟨#[100]⟩ = (2, true) := by decide +kernel +kernel +kernel
theorem build_ap (W : World) : (Instr.build 57 #[(0, .int .u32 2), (1, .int .u64 1)]).run Try.prog W = .ok (.agg (ptrRow apP).toArray) W := by kernel_rfl
theorem lit3_ap (W : World) : (Instr.buildSlice 23 3 #[(0, .agg (ptrRow apP).toArray), (1, .agg (ptrRow apP).toArray), (2, .agg (ptrRow apP).toArray)]).run Try.prog W = .ok (.slice (some ⟨W.heap.size, 0, none⟩) 3 3) (W.alloc (.cells (rowsP [apP, apP, apP]).toArray 57)) := by kernel_rfl
theorem ps_row {w : World} {g : Nat} {l : List PtrV} (c : Nat) (h : w.heap[g]? = some (.cells (rowsP l).toArray 57 (0, 0))) : PS w (.slice (some ⟨g, 0, none⟩) l.length c) l := by
  refine ⟨_, c, rfl, fun i q hq => ⟨g, 0, rfl, fun j u hj => ?_⟩⟩
  have hj34 : j < 34 := by have := (List.getElem?_eq_some_iff.1 hj).1; rwa [ptrRow_length] at this
  have e := rowsP_at l i q hq j hj34
  rw [Nat.zero_add, cell_of_row _ _ _ _ _ _ h, List.getElem?_toArray, e, hj]
theorem ss_row {w : World} {g : Nat} {l : List ByteArray} (h : w.heap[g]? = some (.cells (l.map Value.string).toArray 9 (0, 0))) : SS w (.slice (some ⟨g, 0, none⟩) l.length l.length) l := by
  refine ⟨_, _, rfl, Nat.le_refl _, fun i s hs => ⟨g, 0, rfl, ?_⟩⟩
  rw [Nat.zero_add, cell_of_row _ _ _ _ _ _ h, List.getElem?_toArray, List.getElem?_map, hs]
  rfl
theorem three_alloc (w : World) (S R N : Obj) : (((w.alloc S).alloc R).alloc N).heap[w.heap.size]? = some S ∧ (((w.alloc S).alloc R).alloc N).heap[w.heap.size + 1]? = some R ∧ (((w.alloc S).alloc R).alloc N).heap[w.heap.size + 1 + 1]? = some N ∧ Below w.heap.size w (((w.alloc S).alloc R).alloc N) := by
  have s1 : (w.alloc S).heap.size = w.heap.size + 1 := by simp
  have s2 : ((w.alloc S).alloc R).heap.size = w.heap.size + 1 + 1 := by simp
  refine ⟨?_, ?_, ?_, ?_⟩
  · exact (heap_alloc_old _ _ (by rw [s2]; omega)).trans ((heap_alloc_old _ _ (by rw [s1]; omega)).trans (heap_alloc_new w S))
  · refine (heap_alloc_old _ _ (by rw [s2]; omega)).trans ?_
    rw [← s1]
    exact heap_alloc_new _ _
  · rw [← s2]
    exact heap_alloc_new _ _
  · have h1 := (Below.refl w.heap.size w).alloc (Nat.le_refl _) S
    have h2 := h1.alloc h1.size R
    exact h2.alloc h2.size N
theorem aNode_nb : NB aNode := ⟨by decide, by decide, by decide, nofun, by decide⟩
theorem aNode_rise : Rising aNode.ks := form_rising (check_ok aNode_ok).1
set_option maxRecDepth 100000 in
set_option maxHeartbeats 3200000 in
theorem alive9_any (w : World) : Calls Try.prog 12 #[] w fun e w' => e = .returned (.bool true) ∧ Below w.heap.size w w' := by
  have HP := Lib.hid (nput_any (.slice none 0 0) (.slice none 0 0) (.slice none 0 0) aLeaf w ⟨ss_nil w, ss_nil w, ps_nil w⟩ ⟨by decide, nofun, by decide, nofun, by decide⟩ aLeaf_ok)
  rw [aLeaf_sec] at HP
  go_enter Try.func12, Try.ntmps12
  go_wp2_with fail
  refine HP.out.mono ?_
  rintro e w1 ⟨a, c, rfl, hc, hbs, hb1⟩
  obtain ⟨b, off, rfl, _, hsrc⟩ := bs_cells hbs (by simp)
  have HC := Lib.hid (And.intro (show w1.cell? ⟨b, off + 0, none⟩ = some (.int .u8 1) from hsrc 0 _ rfl) (show w1.cell? ⟨b, off + 1, none⟩ = some (.int .u8 0) from hsrc 1 _ rfl))
  have HB1 := Lib.hid hb1
  have HL3 := Lib.hid lit3_ap
  have SWR := Lib.hid (show (Try.prog.info? 57).map (·.size) = some (#[.int .u32 2, .int .u64 1, .int .u8 0, .int .u8 0, .int .u8 0, .int .u8 0, .int .u8 0, .int .u8 0, .int .u8 0, .int .u8 0, .int .u8 0, .int .u8 0, .int .u8 0, .int .u8 0, .int .u8 0, .int .u8 0, .int .u8 0, .int .u8 0, .int .u8 0, .int .u8 0, .int .u8 0, .int .u8 0, .int .u8 0, .int .u8 0, .int .u8 0, .int .u8 0, .int .u8 0, .int .u8 0, .int .u8 0, .int .u8 0, .int .u8 0, .int .u8 0, .int .u8 0, .int .u8 0] : Array Value).size from size_ptrA apP)
  have EW := Lib.hid (show (#[.int .u32 0, .int .u64 0, .int .u8 0, .int .u8 0, .int .u8 0, .int .u8 0, .int .u8 0, .int .u8 0, .int .u8 0, .int .u8 0, .int .u8 0, .int .u8 0, .int .u8 0, .int .u8 0, .int .u8 0, .int .u8 0, .int .u8 0, .int .u8 0, .int .u8 0, .int .u8 0, .int .u8 0, .int .u8 0, .int .u8 0, .int .u8 0, .int .u8 0, .int .u8 0, .int .u8 0, .int .u8 0, .int .u8 0, .int .u8 0, .int .u8 0, .int .u8 0, .int .u8 0, .int .u8 0] : Array Value).size = (#[.int .u32 2, .int .u64 1, .int .u8 0, .int .u8 0, .int .u8 0, .int .u8 0, .int .u8 0, .int .u8 0, .int .u8 0, .int .u8 0, .int .u8 0, .int .u8 0, .int .u8 0, .int .u8 0, .int .u8 0, .int .u8 0, .int .u8 0, .int .u8 0, .int .u8 0, .int .u8 0, .int .u8 0, .int .u8 0, .int .u8 0, .int .u8 0, .int .u8 0, .int .u8 0, .int .u8 0, .int .u8 0, .int .u8 0, .int .u8 0, .int .u8 0, .int .u8 0, .int .u8 0, .int .u8 0] : Array Value).size from rfl)
  have WO := Lib.hid (show (#[.int .u32 2, .int .u64 1, .int .u8 0, .int .u8 0, .int .u8 0, .int .u8 0, .int .u8 0, .int .u8 0, .int .u8 0, .int .u8 0, .int .u8 0, .int .u8 0, .int .u8 0, .int .u8 0, .int .u8 0, .int .u8 0, .int .u8 0, .int .u8 0, .int .u8 0, .int .u8 0, .int .u8 0, .int .u8 0, .int .u8 0, .int .u8 0, .int .u8 0, .int .u8 0, .int .u8 0, .int .u8 0, .int .u8 0, .int .u8 0, .int .u8 0, .int .u8 0, .int .u8 0, .int .u8 0] : Array Value).all (·.oneCell') = true from ptrRow_one apP)
  have HPR := Lib.hid (fun (w : World) (g : Nat) (h : w.heap[g]? = some (.cells (rowsP [apP, apP, apP]).toArray 57 (0, 0))) => ps_row 3 h)
  have HL3' := Lib.hid (show ∀ W, (Instr.buildSlice 23 3 #[(0, .agg #[.int .u32 2, .int .u64 1, .int .u8 0, .int .u8 0, .int .u8 0, .int .u8 0, .int .u8 0, .int .u8 0, .int .u8 0, .int .u8 0, .int .u8 0, .int .u8 0, .int .u8 0, .int .u8 0, .int .u8 0, .int .u8 0, .int .u8 0, .int .u8 0, .int .u8 0, .int .u8 0, .int .u8 0, .int .u8 0, .int .u8 0, .int .u8 0, .int .u8 0, .int .u8 0, .int .u8 0, .int .u8 0, .int .u8 0, .int .u8 0, .int .u8 0, .int .u8 0, .int .u8 0, .int .u8 0]), (1, .agg #[.int .u32 2, .int .u64 1, .int .u8 0, .int .u8 0, .int .u8 0, .int .u8 0, .int .u8 0, .int .u8 0, .int .u8 0, .int .u8 0, .int .u8 0, .int .u8 0, .int .u8 0, .int .u8 0, .int .u8 0, .int .u8 0, .int .u8 0, .int .u8 0, .int .u8 0, .int .u8 0, .int .u8 0, .int .u8 0, .int .u8 0, .int .u8 0, .int .u8 0, .int .u8 0, .int .u8 0, .int .u8 0, .int .u8 0, .int .u8 0, .int .u8 0, .int .u8 0, .int .u8 0, .int .u8 0]), (2, .agg #[.int .u32 2, .int .u64 1, .int .u8 0, .int .u8 0, .int .u8 0, .int .u8 0, .int .u8 0, .int .u8 0, .int .u8 0, .int .u8 0, .int .u8 0, .int .u8 0, .int .u8 0, .int .u8 0, .int .u8 0, .int .u8 0, .int .u8 0, .int .u8 0, .int .u8 0, .int .u8 0, .int .u8 0, .int .u8 0, .int .u8 0, .int .u8 0, .int .u8 0, .int .u8 0, .int .u8 0, .int .u8 0, .int .u8 0, .int .u8 0, .int .u8 0, .int .u8 0, .int .u8 0, .int .u8 0])]).run Try.prog W = .ok (.slice (some ⟨W.heap.size, 0, none⟩) 3 3) (W.alloc (.cells (rowsP [apP, apP, apP]).toArray 57)) from HL3.out)
  clear hc hbs hb1 hsrc HP HL3
  obtain ⟨R3, hR3⟩ : ∃ R3, (rowsP [apP, apP, apP]).toArray = R3 := ⟨_, rfl⟩
  rw [hR3] at HL3' HPR
  clear hR3
  go_upto_region 3 with (first
    | (with_reducible refine wpList_store_row (o := ⟨none, .store _ (.tmp 3) _, _, _, _, _⟩) rfl 57 _ _ rfl w1.heap.size #[.int .u32 2, .int .u64 1, .int .u8 0, .int .u8 0, .int .u8 0, .int .u8 0, .int .u8 0, .int .u8 0, .int .u8 0, .int .u8 0, .int .u8 0, .int .u8 0, .int .u8 0, .int .u8 0, .int .u8 0, .int .u8 0, .int .u8 0, .int .u8 0, .int .u8 0, .int .u8 0, .int .u8 0, .int .u8 0, .int .u8 0, .int .u8 0, .int .u8 0, .int .u8 0, .int .u8 0, .int .u8 0, .int .u8 0, .int .u8 0, .int .u8 0, .int .u8 0, .int .u8 0, .int .u8 0] rfl rfl 57 #[.int .u32 0, .int .u64 0, .int .u8 0, .int .u8 0, .int .u8 0, .int .u8 0, .int .u8 0, .int .u8 0, .int .u8 0, .int .u8 0, .int .u8 0, .int .u8 0, .int .u8 0, .int .u8 0, .int .u8 0, .int .u8 0, .int .u8 0, .int .u8 0, .int .u8 0, .int .u8 0, .int .u8 0, .int .u8 0, .int .u8 0, .int .u8 0, .int .u8 0, .int .u8 0, .int .u8 0, .int .u8 0, .int .u8 0, .int .u8 0, .int .u8 0, .int .u8 0, .int .u8 0, .int .u8 0] (heap_alloc_new w1 _) SWR.out EW.out WO.out ?_))
  obtain ⟨h7, hb7⟩ := new_row8 w1 #[.int .u32 0, .int .u64 0, .int .u8 0, .int .u8 0, .int .u8 0, .int .u8 0, .int .u8 0, .int .u8 0, .int .u8 0, .int .u8 0, .int .u8 0, .int .u8 0, .int .u8 0, .int .u8 0, .int .u8 0, .int .u8 0, .int .u8 0, .int .u8 0, .int .u8 0, .int .u8 0, .int .u8 0, .int .u8 0, .int .u8 0, .int .u8 0, .int .u8 0, .int .u8 0, .int .u8 0, .int .u8 0, .int .u8 0, .int .u8 0, .int .u8 0, .int .u8 0, .int .u8 0, .int .u8 0] #[.int .u32 2, .int .u64 1, .int .u8 0, .int .u8 0, .int .u8 0, .int .u8 0, .int .u8 0, .int .u8 0, .int .u8 0, .int .u8 0, .int .u8 0, .int .u8 0, .int .u8 0, .int .u8 0, .int .u8 0, .int .u8 0, .int .u8 0, .int .u8 0, .int .u8 0, .int .u8 0, .int .u8 0, .int .u8 0, .int .u8 0, .int .u8 0, .int .u8 0, .int .u8 0, .int .u8 0, .int .u8 0, .int .u8 0, .int .u8 0, .int .u8 0, .int .u8 0, .int .u8 0, .int .u8 0]
  generalize World.setRow _ w1.heap.size _ = w2 at *
  have H7 := Lib.hid h7
  have HB2 := Lib.hid (HB1.out.trans (hb7.mono HB1.out.size))
  have HC2 := Lib.hid (And.intro ((hb7.cell (p := ⟨b, off + 0, none⟩) (block_lt_of_cell HC.out.1)).trans HC.out.1) ((hb7.cell (p := ⟨b, off + 1, none⟩) (block_lt_of_cell HC.out.2)).trans HC.out.2))
  clear h7 hb7 HB1 HC EW WO
  generalize (#[.int .u32 2, .int .u64 1, .int .u8 0, .int .u8 0, .int .u8 0, .int .u8 0, .int .u8 0, .int .u8 0, .int .u8 0, .int .u8 0, .int .u8 0, .int .u8 0, .int .u8 0, .int .u8 0, .int .u8 0, .int .u8 0, .int .u8 0, .int .u8 0, .int .u8 0, .int .u8 0, .int .u8 0, .int .u8 0, .int .u8 0, .int .u8 0, .int .u8 0, .int .u8 0, .int .u8 0, .int .u8 0, .int .u8 0, .int .u8 0, .int .u8 0, .int .u8 0, .int .u8 0, .int .u8 0] : Array Value) = AR at *
  have HLW := Lib.hid (HL3'.out (w2.alloc (.cells #[.string ⟨#[98]⟩, .string ⟨#[100]⟩] 9)))
  clear HL3'
  go_upto_region 4 with (first
    | (with_reducible refine wpList_load_row (o := ⟨some 16, _, _, _, _, _⟩) rfl 57 _ rfl w1.heap.size rfl 57 AR (0, 0) _ ((heap_alloc_old w2 _ (Array.getElem?_eq_some_iff.1 H7.out).1).trans H7.out) Try.underlying57 rfl SWR.out ?_)
    | (with_reducible refine wpList_load_row (o := ⟨some 17, _, _, _, _, _⟩) rfl 57 _ rfl w1.heap.size rfl 57 AR (0, 0) _ ((heap_alloc_old w2 _ (Array.getElem?_eq_some_iff.1 H7.out).1).trans H7.out) Try.underlying57 rfl SWR.out ?_)
    | (with_reducible refine wpList_load_row (o := ⟨some 18, _, _, _, _, _⟩) rfl 57 _ rfl w1.heap.size rfl 57 AR (0, 0) _ ((heap_alloc_old w2 _ (Array.getElem?_eq_some_iff.1 H7.out).1).trans H7.out) Try.underlying57 rfl SWR.out ?_)
    | (refine wpList_lit_run (o := ⟨some 19, _, _, _, _, _⟩) rfl _ _ _ rfl #[(0, .agg AR), (1, .agg AR), (2, .agg AR)] (by simp [Act.eval, Act.put]) _ _ HLW.out ?_))
  obtain ⟨r1, r2, r3, r4⟩ := three_alloc w2 (.cells #[.string ⟨#[98]⟩, .string ⟨#[100]⟩] 9) (.cells R3 57) (.cells #[.bool false, .slice (some ⟨w2.heap.size, 0, none⟩) 2 2, .slice none 0 0, .slice (some ⟨w2.heap.size + 1, 0, none⟩) 3 3] 25)
  generalize World.alloc (World.alloc (World.alloc w2 _) _) _ = w3 at *
  have HNR := Lib.hid (show NR w3 (.slice (some ⟨w2.heap.size, 0, none⟩) 2 2) (.slice none 0 0) (.slice (some ⟨w2.heap.size + 1, 0, none⟩) 3 3) aNode from ⟨ss_row (l := [⟨#[98]⟩, ⟨#[100]⟩]) r1, ss_nil w3, HPR.out w3 _ r2⟩)
  generalize (Value.slice (some ⟨w2.heap.size, 0, none⟩) 2 2) = ka at *
  generalize (Value.slice (some ⟨w2.heap.size + 1, 0, none⟩) 3 3) = pa at *
  have HB3 := Lib.hid (HB2.out.trans (r4.mono HB2.out.size))
  have HA3 := Lib.hid r3
  have HT3 := Lib.hid (Array.getElem?_eq_some_iff.1 r3).1
  have HC3 := Lib.hid (show w3.cell? ⟨b, off, none⟩ = some (.int .u8 1) ∧ w3.cell? ⟨b, off + 1, none⟩ = some (.int .u8 0) from ⟨(r4.cell (p := ⟨b, off, none⟩) (block_lt_of_cell HC2.out.1)).trans HC2.out.1, (r4.cell (p := ⟨b, off + 1, none⟩) (block_lt_of_cell HC2.out.2)).trans HC2.out.2⟩)
  obtain ⟨T, hT⟩ : ∃ T, w2.heap.size + 1 + 1 = T := ⟨_, rfl⟩
  try rw [hT]
  rw [hT] at HA3 HT3
  have SEN := Lib.hid (size_node false ka (.slice none 0 0) pa)
  have HF1 := Lib.hid (nfind_any ka (.slice none 0 0) pa aNode ⟨#[99]⟩ w3 HNR.out aNode_nb aNode_rise)
  rw [aNode_c] at HF1
  clear r1 r2 r3 r4 HLW HPR H7 HB2 HC2 SWR hT
  go_wp2_with (first
    | (with_reducible refine wpList_load_row (o := ⟨some 22, _, _, _, _, _⟩) rfl 25 _ rfl T rfl 25 #[.bool false, ka, .slice none 0 0, pa] (0, 0) _ HA3.out Try.underlying25 rfl SEN.out ?_))
  refine HF1.out.mono ?_
  rintro e w4 ⟨rfl, hb4⟩
  have HB4 := Lib.hid (HB3.out.trans (hb4.mono HB3.out.size))
  have HA4 := Lib.hid ((hb4.block T HT3.out).trans HA3.out)
  have HN4 := Lib.hid (HNR.out.below hb4)
  have HT4 := Lib.hid (Nat.lt_of_lt_of_le HT3.out hb4.size)
  have HC4 := Lib.hid (And.intro ((hb4.cell (p := ⟨b, off, none⟩) (block_lt_of_cell HC3.out.1)).trans HC3.out.1) ((hb4.cell (p := ⟨b, off + 1, none⟩) (block_lt_of_cell HC3.out.2)).trans HC3.out.2))
  have HF2 := Lib.hid (nfind_any ka (.slice none 0 0) pa aNode ⟨#[100]⟩ w4 HN4.out aNode_nb aNode_rise)
  rw [aNode_d] at HF2
  clear hb4 HB3 HA3 HNR HT3 HC3 HF1
  go_wp2_with (first
    | (with_reducible refine wpList_load_row (o := ⟨some 27, _, _, _, _, _⟩) rfl 25 _ rfl T rfl 25 #[.bool false, ka, .slice none 0 0, pa] (0, 0) _ HA4.out Try.underlying25 rfl SEN.out ?_))
  refine HF2.out.mono ?_
  rintro e w5 ⟨rfl, hb5⟩
  have HB5 := Lib.hid (HB4.out.trans (hb5.mono HB4.out.size))
  have HA5 := Lib.hid ((hb5.block T HT4.out).trans HA4.out)
  have HCK := Lib.hid (ncheck_any ka (.slice none 0 0) pa aNode w5 (HN4.out.below hb5) aNode_nb)
  rw [aNode_ok] at HCK
  have d0 := (hb5.cell (p := ⟨b, off, none⟩) (block_lt_of_cell HC4.out.1)).trans HC4.out.1
  have d1 := (hb5.cell (p := ⟨b, off + 1, none⟩) (block_lt_of_cell HC4.out.2)).trans HC4.out.2
  clear hb5 HB4 HA4 HN4 HT4 HC4 HF2
  go_wp2_with (first
    | (with_reducible refine wpList_load_guarded (o := ⟨some 51, _, _, _, _, _⟩) (by kernel_rfl) 25 _ rfl T rfl 25 #[.bool false, ka, .slice none 0 0, pa] (0, 0) _ HA5.out Try.underlying25 rfl SEN.out ?_))
  refine HCK.out.mono ?_
  rintro e w6 ⟨rfl, hb6⟩
  have HB6 := Lib.hid (HB5.out.trans (hb6.mono HB5.out.size))
  clear hb6 HB5 HA5 HCK d0 d1
  go_wp2_with fail
  go_ret
  exact ⟨rfl, HB6.out⟩
end Go.Proofs.Ytcgddhainmnebaa
