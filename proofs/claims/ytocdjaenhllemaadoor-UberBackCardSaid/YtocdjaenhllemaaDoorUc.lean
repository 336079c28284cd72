/-
  Ubers: the program's Slot, Choose.
-/
import Derived.Test.YtocdjaenhllemaaDoorUg
namespace Go.Proofs.YtocdjaenhllemaaDoor
set_option maxRecDepth 4000
open Go.ChangeShapes Go.WideShapes Go.ChangeAt Go.RowKit

theorem uget_any (k l : List Int) (v : Value) (a : Option Addr) (n c : Nat) (w : World) (hK : KT w) (hv : BS w v k) (hr : Room v) (hn : k.length ≤ 900000) (hl : BS w (.slice a n c) l) (hll : l.length = n) (hc : n ≤ c) (hn63 : n ≤ 140737488351232) (hc63 : c ≤ 9223372036854775807) :
    Calls Tryd.prog 17 #[v, .slice a n c] w fun e w' => e = .returned (.tuple #[.agg (ubRow (getU k l).1).toArray, .int .i64 (getU k l).2]) ∧ Below w.heap.size w w' := by
  by_cases h : n = 512
  · subst h
    exact uget_full k l v a c w hK hv hr hn hl hll hc hc63
  · rw [show getU k l = (zeroUb, 2) by unfold getU; rw [if_pos (by rw [hll]; exact h)]]
    exact uget_size v a n c w h hn63
set_option maxHeartbeats 400000 in
theorem uslot_any (x : Int) (w : World) (h0 : 0 ≤ x) :
    Calls Tryd.prog 15 #[.int .u64 x] w fun e w' => e = .returned (.int .u32 (x % 2)) ∧ w' = w := by
  have h2 : x.tmod 2 = x % 2 := Int.tmod_eq_emod_of_nonneg h0
  have hw : IntKind.u32.wrap (x % 2) = x % 2 := IntWalk.u32_in _ (by omega)
  go_enter Tryd.func15, Tryd.ntmps15
  go_wp2_with fail
  go_ret
  exact ⟨rfl, rfl⟩
/-- The newest one of the first so many. -/
def nextU (s : Int) (cur : UbV) (g : UbV × Int) : UbV := if pickU s g = true ∧ cur.tx < g.1.tx then g.1 else cur
def bestU (G : Nat → UbV × Int) : Nat → UbV
  | 0 => zeroUb
  | i + 1 => nextU (i : Int) (bestU G i) (G i)
theorem getU_tx {key b : List Int} (h : (getU key b).2 = 0) : (getU key b).1.tx ≠ 0 := by
  have := (getU_ok h).1
  unfold mayU at this
  intro e
  rw [e] at this
  simp at this
theorem best_choose (k la lb : List Int) (G : Nat → UbV × Int) (h0 : G 0 = getU k la) (h1 : G 1 = getU k lb) :
    ((bestU G 2).tx = 0 → chooseU k la lb = (zeroUb, 8)) ∧ ((bestU G 2).tx ≠ 0 → chooseU k la lb = (bestU G 2, 0)) := by
  have ta : pickU 0 (getU k la) = true → (getU k la).1.tx ≠ 0 ∧ (getU k la).1.tx % 2 = 0 := by
    intro h
    simp only [pickU, Bool.and_eq_true, decide_eq_true_eq] at h
    exact ⟨getU_tx h.1, h.2⟩
  have tb : pickU 1 (getU k lb) = true → (getU k lb).1.tx ≠ 0 ∧ (getU k lb).1.tx % 2 = 1 := by
    intro h
    simp only [pickU, Bool.and_eq_true, decide_eq_true_eq] at h
    exact ⟨getU_tx h.1, h.2⟩
  have pa := (getU k la).1.t0
  have pb := (getU k lb).1.t0
  have hz : zeroUb.tx = 0 := rfl
  have hb : bestU G 2 = nextU 1 (nextU 0 zeroUb (getU k la)) (getU k lb) := by
    show nextU ((1 : Nat) : Int) (nextU ((0 : Nat) : Int) zeroUb (G 0)) (G 1) = _
    rw [h0, h1]
    rfl
  rw [hb]
  unfold chooseU
  unfold nextU
  generalize getU k la = ga at *
  generalize getU k lb = gb at *
  by_cases p : pickU 0 ga = true
  · have ha := ta p
    rw [if_pos (show pickU 0 ga = true ∧ zeroUb.tx < ga.1.tx from ⟨p, by rw [hz]; omega⟩)]
    by_cases q : pickU 1 gb = true
    · have hb := tb q
      by_cases r : ga.1.tx < gb.1.tx
      · rw [if_pos ⟨q, r⟩, if_neg (fun h => by have := h.2 q; omega), if_pos q]
        exact ⟨fun h => absurd h hb.1, fun _ => rfl⟩
      · rw [if_neg (fun h => r h.2), if_pos ⟨p, fun _ => by omega⟩]
        exact ⟨fun h => absurd h ha.1, fun _ => rfl⟩
    · rw [if_neg (fun h => q h.1), if_pos ⟨p, fun h => absurd h q⟩]
      exact ⟨fun h => absurd h ha.1, fun _ => rfl⟩
  · have e0 : (if pickU 0 ga = true ∧ zeroUb.tx < ga.1.tx then ga.1 else zeroUb) = zeroUb := if_neg (fun h => p h.1)
    rw [e0, if_neg (show ¬ (pickU 0 ga = true ∧ (pickU 1 gb = true → gb.1.tx < ga.1.tx)) from fun h => p h.1)]
    by_cases q : pickU 1 gb = true
    · have hb := tb q
      rw [if_pos (show pickU 1 gb = true ∧ zeroUb.tx < gb.1.tx from ⟨q, by rw [hz]; omega⟩), if_pos q]
      exact ⟨fun h => absurd h hb.1, fun _ => rfl⟩
    · rw [if_neg (show ¬ (pickU 1 gb = true ∧ zeroUb.tx < gb.1.tx) from fun h => q h.1), if_neg q]
      exact ⟨fun _ => rfl, fun h => absurd hz h⟩
theorem index_two (x y : Value) (i : Nat) (hi : i < 2) (w : World) : (Instr.index 68 (.agg #[x, y]) (.int .i64 (i : Int))).run Tryd.prog w = .ok (if i = 0 then x else y) w := by
  obtain ⟨i0, h, hs⟩ := Option.map_eq_some_iff.1 (show (Tryd.prog.info? 22).map (·.size) = some 1 by kernel_rfl)
  refine index_agg _ _ _ _ i _ i0 _ Tryd.underlying68 Tryd.underlying22 rfl h hs hi ?_ w
  match i, hi with
  | 0, _ => rfl
  | 1, _ => rfl
/-- What is chosen of two, while it goes on: the cells of the newest one and of the answer. -/
structure CU (w wr : World) (u : UbV) : Prop where
  bel : Below w.heap.size w wr
  out : wr.heap[w.heap.size]? = some (.cells (ubRow zeroUb).toArray 30 (0, 0))
  new : wr.heap[w.heap.size + 1]? = some (.cells (ubRow u).toArray 30 (0, 0))
theorem CU.below {w wr w' : World} {u : UbV} (h : CU w wr u) (b : Below wr.heap.size wr w') : CU w w' u :=
  ⟨h.bel.trans (b.mono h.bel.size), (b.block _ (Array.getElem?_eq_some_iff.1 h.out).1).trans h.out, (b.block _ (Array.getElem?_eq_some_iff.1 h.new).1).trans h.new⟩
theorem CU.put {w wr : World} {u u' : UbV} (h : CU w wr u) : CU w (wr.setRow (w.heap.size + 1) (ubRow u').toArray) u' :=
  ⟨ybelow_row h.bel (by omega) _, (setRow_other _ _ _ _ (by omega)).trans h.out, setRow_heap _ _ _ _ _ _ h.new⟩
theorem cu_new (w : World) : CU w ((w.alloc (.cells (ubRow zeroUb).toArray 30)).alloc (.cells (ubRow zeroUb).toArray 30)) zeroUb := by
  have hb := (Below.refl w.heap.size w).alloc (Nat.le_refl _) (.cells (ubRow zeroUb).toArray 30)
  have hs1 : (w.alloc (.cells (ubRow zeroUb).toArray 30)).heap.size = w.heap.size + 1 := by simp
  refine ⟨hb.alloc hb.size _, ?_, ?_⟩
  · exact (((Below.refl _ (w.alloc (.cells (ubRow zeroUb).toArray 30))).alloc (Nat.le_refl _) (.cells (ubRow zeroUb).toArray 30)).block w.heap.size (by omega)).trans (heap_alloc_new w (.cells (ubRow zeroUb).toArray 30))
  · have q := heap_alloc_new (w.alloc (.cells (ubRow zeroUb).toArray 30)) (.cells (ubRow zeroUb).toArray 30)
    rwa [hs1] at q
set_option maxRecDepth 100000 in
set_option maxHeartbeats 3200000 in
theorem uchoose_any (k la lb : List Int) (v : Value) (aa ab : Option Addr) (na ca nb cb : Nat) (w : World) (hK : KT w) (hv : BS w v k) (hr : Room v) (hn : k.length ≤ 900000)
    (hla : BS w (.slice aa na ca) la) (hna : la.length = na) (hca : na ≤ ca) (hna63 : na ≤ 140737488351232) (hca63 : ca ≤ 9223372036854775807) (hlb : BS w (.slice ab nb cb) lb) (hnb : lb.length = nb) (hcb : nb ≤ cb) (hnb63 : nb ≤ 140737488351232) (hcb63 : cb ≤ 9223372036854775807) :
    Calls Tryd.prog 19 #[v, .slice aa na ca, .slice ab nb cb] w fun e w' => e = .returned (.tuple #[.agg (ubRow (chooseU k la lb).1).toArray, .int .i64 (chooseU k la lb).2]) ∧ Below w.heap.size w w' := by
  have hz := zero_ub
  obtain ⟨G, hG⟩ : ∃ G : Nat → UbV × Int, G = fun i => if i = 0 then getU k la else getU k lb := ⟨_, rfl⟩
  obtain ⟨hc1, hc2⟩ := best_choose k la lb G (by rw [hG]; rfl) (by rw [hG]; rfl)
  have HC1 := Lib.hid hc1
  have HC2 := Lib.hid hc2
  have HI := Lib.hid (fun (i : Nat) (hi : i < 2) => show ∃ s, (∀ W : World, (Instr.index 68 (.agg #[.slice aa na ca, .slice ab nb cb]) (.int .i64 (i : Int))).run Tryd.prog W = .ok s W) ∧ ∀ (W : World), Below w.heap.size w W → Calls Tryd.prog 17 #[v, s] W (fun e w' => e = .returned (.tuple #[.agg (ubRow (G i).1).toArray, .int .i64 (G i).2]) ∧ Below W.heap.size W w') from by
    refine ⟨_, index_two _ _ i hi, fun W hb => ?_⟩
    rw [hG]
    match i, hi with
    | 0, _ => exact uget_any k la v aa na ca W (hK.below hb hK.pos) (hv.kept hb) hr hn (hla.kept hb) hna hca hna63 hca63
    | 1, _ => exact uget_any k lb v ab nb cb W (hK.below hb hK.pos) (hv.kept hb) hr hn (hlb.kept hb) hnb hcb hnb63 hcb63)
  have HS := Lib.hid (fun (W : World) (x : Int) h0 => uslot_any x W h0)
  have HCU := Lib.hid (cu_new w)
  have HSE := Lib.hid (fun u : UbV => size_ubA u)
  have HSL := Lib.hid (fun u u' : UbV => show (ubRow u).toArray.size = (ubRow u').toArray.size by simp [ubRow_length])
  have HSO := Lib.hid ubRow_one
  have HBN := Lib.hid build_nou
  clear hK hv hr hn hla hna hca hna63 hca63 hlb hnb hcb hnb63 hcb63 hG hc1 hc2
  generalize chooseU k la lb = CH at *
  obtain ⟨ZU, hZU⟩ : ∃ ZU, (ubRow zeroUb).toArray = ZU := ⟨_, rfl⟩
  rw [hZU] at hz HBN
  have HZU := Lib.hid hZU
  rw [hZU] at HCU
  go_enter Tryd.func19, Tryd.ntmps19
  go_upto_region 2 with fail
  generalize World.alloc (World.alloc w _) _ = w2 at *
  clear hZU
  go_wp2_with fail
  go_loopw [16] (fun v16 wr => ∃ i : Nat, i ≤ 2 ∧ v16 = .int .i64 (i : Int) ∧ CU w wr (bestU G i)) (fun v _ => 2 - (intOf v).toNat)
  case atStart => exact ⟨0, by omega, rfl, HCU.out⟩
  case round =>
    obtain ⟨i, hi, rfl, hCU⟩ := hrel
    clear HCU
    by_cases hlt : i < 2
    · obtain ⟨s, hix, hget⟩ := HI.out i hlt
      have HGET := Lib.hid hget
      have HCU := Lib.hid hCU
      have HBE := Lib.hid (show bestU G (i + 1) = nextU (i : Int) (bestU G i) (G i) from rfl)
      have iI : (i : Int) < 2 := by omega
      have i0 : (0 : Int) ≤ (i : Int) := by omega
      have hwi : IntKind.u32.wrap (i : Int) = (i : Int) := IntWalk.u32_in _ (by omega)
      have HLT := Lib.hid hlt
      clear hget hCU hi hlt
      obtain ⟨NB, hNB⟩ : ∃ NB, bestU G (i + 1) = NB := ⟨_, rfl⟩
      rw [hNB] at HBE
      have HNBX := Lib.hid hNB
      clear hNB
      generalize bestU G i = cur at *
      generalize G i = g at *
      go_wp2_with fail
      refine (HGET.out wr HCU.out.bel).mono ?_
      rintro e w5 ⟨rfl, hb5⟩
      have HCU5 := Lib.hid (HCU.out.below hb5)
      have HH := Lib.hid (heap_alloc_new w5 (.cells ZU 30))
      have SE := Lib.hid (HSE.out g.1)
      have SL := Lib.hid (show ZU.size = (ubRow g.1).toArray.size by rw [← HZU.out]; exact HSL.out zeroUb g.1)
      have SLC := Lib.hid (HSL.out cur g.1)
      have SO := Lib.hid (HSO.out g.1)
      have HTX := Lib.hid g.1.t0
      have HAT := Lib.hid (fun (W : World) (T : Nat) (h : W.heap[T]? = some (.cells (ubRow g.1).toArray 30 (0, 0))) => (ub_at h).1)
      have HPUT := Lib.hid (fun (W : World) (h : CU w W cur) => h.put (u' := g.1))
      have HNX := Lib.hid (show NB = if pickU (i : Int) g = true ∧ cur.tx < g.1.tx then g.1 else cur from HBE.out)
      clear hb5 HGET HCU hix HBE
      obtain ⟨gc, hgc⟩ : ∃ gc, g.2 = gc := ⟨_, rfl⟩
      obtain ⟨gx, hgx⟩ : ∃ gx, g.1.tx = gx := ⟨_, rfl⟩
      obtain ⟨cx, hcx⟩ : ∃ cx, cur.tx = cx := ⟨_, rfl⟩
      have HY := Lib.hid (show gc = 0 → gx % 2 = (i : Int) → cx < gx → NB = g.1 from fun h1 h2 h3 => by rw [HNX.out, if_pos]; refine ⟨?_, by rw [hcx, hgx]; exact h3⟩; simp only [pickU, Bool.and_eq_true, decide_eq_true_eq]; rw [hgc, hgx]; exact ⟨h1, h2⟩)
      have HN := Lib.hid (show ¬ (gc = 0 ∧ gx % 2 = (i : Int) ∧ cx < gx) → NB = cur from fun h => by
        rw [HNX.out, if_neg]
        rintro ⟨h1, h3⟩
        simp only [pickU, Bool.and_eq_true, decide_eq_true_eq] at h1
        rw [hgc, hgx] at h1
        rw [hcx, hgx] at h3
        exact h ⟨h1.1, h1.2, h3⟩)
      rw [hgc]
      rw [hgx] at HTX HAT
      have HCX := Lib.hid hcx
      clear hgc hgx hcx HNX
      obtain ⟨GR, hGR⟩ : ∃ GR, (ubRow g.1).toArray = GR := ⟨_, rfl⟩
      rw [hGR] at SE SL SLC SO HAT HPUT ⊢
      clear hGR
      go_upto_region 6 with (first
        | (with_reducible refine wpList_store_row (o := ⟨none, .store _ (.tmp 11) _, _, _, _, _⟩) rfl 30 _ _ rfl w5.heap.size GR rfl rfl 30 ZU HH.out SE.out SL.out SO.out ?_))
      have h6 := setRow_heap (w5.alloc (.cells ZU 30)) w5.heap.size _ GR _ _ HH.out
      have hb6 : Below w5.heap.size w5 ((w5.alloc (.cells ZU 30)).setRow w5.heap.size GR) := ybelow_row ((Below.refl w5.heap.size w5).alloc (Nat.le_refl _) _) (Nat.le_refl _) _
      generalize (w5.alloc (.cells ZU 30)).setRow w5.heap.size GR = w6 at *
      have HCU6 := Lib.hid (HCU5.out.below hb6)
      obtain ⟨T, hT⟩ : ∃ T, w5.heap.size = T := ⟨_, rfl⟩
      rw [hT] at h6 ⊢
      have H6 := Lib.hid h6
      have c0 := HAT.out w6 T h6
      have n0 := (ub_at HCU6.out.new).1
      rw [HCX.out] at n0
      have hx0 := HTX.out.1
      have HSL6 := Lib.hid (HS.out w6 gx hx0)
      clear h6 hb6 hT HH HCU5 HAT HTX hx0
      by_cases e0 : gc = 0
      · subst e0
        by_cases e1 : gx % 2 = (i : Int)
        · have e1' : (gx % 2 == (i : Int)) = true := by simp [e1]
          by_cases e2 : cx < gx
          · have HNB := Lib.hid (HY.out rfl e1 e2)
            have e2' : decide (cx < gx) = true := decide_eq_true e2
            clear e1 e2 HY HN
            go_wp2_with fail
            refine HSL6.out.mono ?_
            rintro e w7 ⟨rfl, rfl⟩
            go_wp2_with (first
              | (with_reducible refine wpList_load_row (o := ⟨some 43, _, _, _, _, _⟩) rfl 30 _ rfl T rfl 30 GR (0, 0) _ H6.out Tryd.underlying30 rfl SE.out ?_)
              | (with_reducible refine wpList_store_row (o := ⟨none, .store _ (.tmp 8) _, _, _, _, _⟩) rfl 30 _ _ rfl (w.heap.size + 1) GR rfl rfl 30 (ubRow cur).toArray HCU6.out.new SE.out SLC.out SO.out ?_))
            go_roundw
            case rel => exact ⟨i + 1, by have := HLT.out; omega, by go_num, by rw [HNBX.out, HNB.out]; exact HPUT.out _ HCU6.out⟩
            case measure => simp [intOf]; have := HLT.out; omega
          · have HNB := Lib.hid (HN.out (fun h => e2 h.2.2))
            have e2' : decide (cx < gx) = false := decide_eq_false e2
            clear e1 e2 HY HN
            go_wp2_with fail
            refine HSL6.out.mono ?_
            rintro e w7 ⟨rfl, rfl⟩
            go_wp2_with fail
            go_roundw
            case rel => exact ⟨i + 1, by have := HLT.out; omega, by go_num, by rw [HNBX.out, HNB.out]; exact HCU6.out⟩
            case measure => simp [intOf]; have := HLT.out; omega
        · have e1' : (gx % 2 == (i : Int)) = false := by simp [e1]
          have HNB := Lib.hid (HN.out (fun h => e1 h.2.1))
          clear e1 HY HN
          go_wp2_with fail
          refine HSL6.out.mono ?_
          rintro e w7 ⟨rfl, rfl⟩
          go_wp2_with fail
          go_roundw
          case rel => exact ⟨i + 1, by have := HLT.out; omega, by go_num, by rw [HNBX.out, HNB.out]; exact HCU6.out⟩
          case measure => simp [intOf]; have := HLT.out; omega
      · have e0' : (gc == 0) = false := by simp [e0]
        have HNB := Lib.hid (HN.out (fun h => e0 h.1))
        clear HY HN
        go_wp2_with fail
        go_roundw
        case rel => exact ⟨i + 1, by have := HLT.out; omega, by go_num, by rw [HNBX.out, HNB.out]; exact HCU6.out⟩
        case measure => simp [intOf]; have := HLT.out; omega
    · obtain rfl : i = 2 := by omega
      have n0 := (ub_at hCU.new).1
      have HCU := Lib.hid hCU
      have HO := Lib.hid (show wr.heap[w.heap.size]? = some (.cells ZU 30 (0, 0)) by rw [← HZU.out]; exact hCU.out)
      have SEZ := Lib.hid (show (Tryd.prog.info? 30).map (·.size) = some ZU.size by rw [← HZU.out]; exact HSE.out zeroUb)
      have SOZ := Lib.hid (show ZU.all (·.oneCell') = true by rw [← HZU.out]; exact HSO.out zeroUb)
      have SE := Lib.hid (HSE.out (bestU G 2))
      have SL := Lib.hid (show ZU.size = (ubRow (bestU G 2)).toArray.size by rw [← HZU.out]; exact HSL.out zeroUb _)
      have SO := Lib.hid (HSO.out (bestU G 2))
      clear hCU HI HS HSE HSL HSO hi hlt
      generalize bestU G 2 = B at *
      by_cases e0 : B.tx = 0
      · have e0' : (B.tx == 0) = true := by simp [e0]
        have HC := Lib.hid (HC1.out e0)
        clear e0 HC1 HC2
        go_wp2_with (first
          | (with_reducible refine wpList_build_run (o := ⟨some 48, _, _, _, _, _⟩) rfl 30 _ rfl #[] (by simp) (.agg ZU) (HBN.out _) ?_)
          | (with_reducible refine wpList_store_row (o := ⟨none, .store _ (.tmp 6) _, _, _, _, _⟩) rfl 30 _ _ rfl w.heap.size ZU rfl rfl 30 ZU HO.out SEZ.out rfl SOZ.out ?_))
        have h5 : Below w.heap.size w (wr.setRow w.heap.size ZU) := ybelow_row HCU.out.bel (Nat.le_refl _) _
        refine bodyPost_ret (v := .tuple #[.agg ZU, .int .i64 8]) (results_cell_two Tryd.results19 _ _ w.heap.size 30 ZU (0, 0) _ rfl (setRow_heap _ w.heap.size _ ZU _ _ HO.out) Tryd.underlying30 rfl SEZ.out _ (by simp)) rfl ⟨?_, h5⟩
        rw [HC.out]
        rw [← HZU.out]
      · have e0' : (B.tx == 0) = false := by simp [e0]
        have HC := Lib.hid (HC2.out e0)
        clear e0 HC1 HC2
        obtain ⟨BR, hBR⟩ : ∃ BR, (ubRow B).toArray = BR := ⟨_, rfl⟩
        have HBR := Lib.hid hBR
        have HNW := Lib.hid (show wr.heap[w.heap.size + 1]? = some (.cells BR 30 (0, 0)) by rw [← hBR]; exact HCU.out.new)
        rw [hBR] at SE SL SO
        clear hBR
        go_wp2_with (first
          | (with_reducible refine wpList_load_row (o := ⟨some 49, _, _, _, _, _⟩) rfl 30 _ rfl (w.heap.size + 1) rfl 30 BR (0, 0) _ HNW.out Tryd.underlying30 rfl SE.out ?_)
          | (with_reducible refine wpList_store_row (o := ⟨none, .store _ (.tmp 6) _, _, _, _, _⟩) rfl 30 _ _ rfl w.heap.size BR rfl rfl 30 ZU HO.out SE.out SL.out SO.out ?_))
        have h5 : Below w.heap.size w (wr.setRow w.heap.size BR) := ybelow_row HCU.out.bel (Nat.le_refl _) _
        refine bodyPost_ret (v := .tuple #[.agg BR, .int .i64 0]) (results_cell_two Tryd.results19 _ _ w.heap.size 30 BR (0, 0) _ rfl (setRow_heap _ w.heap.size _ BR _ _ HO.out) Tryd.underlying30 rfl SE.out _ (by simp)) rfl ⟨?_, h5⟩
        rw [HC.out]
        rw [← HBR.out]
end Go.Proofs.YtocdjaenhllemaaDoor
