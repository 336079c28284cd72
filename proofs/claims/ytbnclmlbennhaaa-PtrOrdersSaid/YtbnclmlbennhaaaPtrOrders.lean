/-
  'PtrOrders' returns true at every input, and each argument reads behind the call as it read before. Conditions: none.
-/
import Derived.Test.YtbnclmlbennhaaaRows
import Derived.Test.YtbnclmlbennhaaaYLaid
import Derived.Test.YtbnclmlbennhaaaAb
namespace Go.Proofs.Ytbnclmlbennhaaa.ptrOrders
open Go.ChangeShapes Go.WideShapes Go.ChangeAt Go.RowKit
set_option linter.unusedVariables false

/-- The addresses of the pointers from k on, in the row that a slice owns. -/
def XA8 (W : World) (a : Option Addr) (B B7 k : Nat) (A : List PtrV) : Prop :=
  ∀ g, a = some ⟨g, 0, none⟩ → B ≤ g ∧ g < B7 ∧ ∃ cur, W.heap[g]? = some (.cells cur 27 (0, 0)) ∧ ∀ j q, k ≤ j → A[j]? = some q → cur[j * 34]? = some (.int .u32 q.ad)
theorem allL_short (L : List PtrV) : (allL L).length ≤ L.length := by
  have h1 : ∀ (q : PtrV) (l : List PtrV), (ins8 q l).length ≤ l.length + 1 := by
    intro q l
    induction l with
    | nil => simp [ins8]
    | cons p r ih =>
      unfold ins8
      split
      · simp only [List.length_cons]; omega
      · split <;> simp
  have h2 : ∀ (L out : List PtrV), (L.foldl (fun out q => ins8 q out) out).length ≤ out.length + L.length := by
    intro L
    induction L with
    | nil => intro out; simp
    | cons q L ih =>
      intro out
      have := ih (ins8 q out)
      have := h1 q out
      simp only [List.foldl_cons, List.length_cons]
      omega
  have h3 := h2 L []
  simpa [allL] using h3
theorem allL_same {L M : List PtrV} (h : ∀ q, L.count q = M.count q) : allL L = allL M :=
  rise_eq (allL_rise L) (allL_rise M) (fun x => by rw [mem_allL, mem_allL, ← List.count_pos_iff, ← List.count_pos_iff, h])
theorem empty_counts {L : List PtrV} (h : ∀ q, L.count q = 0) : L = [] := by
  cases L with
  | nil => rfl
  | cons p r => have := h p; simp at this
theorem ptrs_later {w w' : World} {x : List PtrV} {a : Option Addr} {n c : Nat} (h : Ptrs w x a n c) (hb : Below w.heap.size w w') : Ptrs w' x a n c :=
  ⟨h.len, h.cap, h.big, fun j hj => by
    obtain ⟨b, off, cs, h1, h2, h3, h4⟩ := h.here j hj
    exact ⟨b, off, cs, h1, h2, h3, range_below h4 hb⟩⟩
theorem bs_su {w : World} (T : Nat) (q : PtrV) (h : w.rangeAt T 2 (q.su.map (Value.int .u8))) : BS w (.slice (some ⟨T, 2, none⟩) 32 32) q.su :=
  ⟨_, _, by rw [q.s0.1], q.s0.2, fun e => (by cases e), .inr ⟨T, 2, rfl, fun i hi => by
    rw [h i (.int .u8 q.su[i]) (by rw [List.getElem?_map, List.getElem?_eq_getElem hi]; rfl)]
    simp [List.getD, List.getElem?_eq_getElem hi]⟩⟩

set_option maxRecDepth 100000 in
set_option maxHeartbeats 3200000 in
theorem walk (w : World) (a0 : Option Addr) (len0 cap0 : Nat) (x0 : List PtrV) (sl0 : SlR RPtrV 34 w x0 a0 len0 cap0) :
    Calls Try.prog 8 #[.slice a0 len0 cap0] w fun e w' => e = .returned (.bool true) ∧ Below w.heap.size w w' := by
  have lI : (len0 : Int) ≤ 140737488351232 := by have := sl0.big; have := sl0.cap; omega
  have l0 : (0 : Int) ≤ (len0 : Int) := by omega
  have HSL := Lib.hid sl0
  have HA := Lib.hid (alive8_any w)
  clear sl0
  by_cases hbig : 100 < len0
  · have hbI : (100 : Int) < (len0 : Int) := by omega
    clear hbig
    go_enter Try.func8, Try.ntmps8
    go_wp2_with fail
    refine HA.out.mono ?_
    rintro e w1 ⟨rfl, hb1⟩
    have HB1 := Lib.hid hb1
    clear hb1 HA
    go_wp2_with fail
    go_ret
    exact ⟨rfl, HB1.out⟩
  have hsm : (len0 : Int) ≤ 100 := by omega
  have HS0 := Lib.hid (show len0 ≤ 100 by omega)
  have HLN := Lib.hid HSL.out.len
  clear hbig lI
  have hzp := zero_ptr
  have HZL := Lib.hid (fun q : PtrV => show (ptrRow zeroPtr).toArray.size = (ptrRow q).toArray.size by simp [ptrRow_length])
  obtain ⟨ZA, hZA⟩ : ∃ ZA, (ptrRow zeroPtr).toArray = ZA := ⟨_, rfl⟩
  rw [hZA] at hzp HZL
  have HZA := Lib.hid hZA
  clear hZA
  go_enter Try.func8, Try.ntmps8
  go_wp2_with fail
  refine HA.out.mono ?_
  rintro e w1 ⟨rfl, hb1⟩
  have HN1 := Lib.hid (pnew8 w w1 hb1)
  clear hb1 HA
  go_wp2_with fail
  refine HN1.out.mono ?_
  rintro e w2 ⟨rfl, hc2, hb2⟩
  have HC2 := Lib.hid hc2
  clear hb2 hc2 HN1
  generalize w1.heap.size = C at *
  go_wp2_with fail
  go_loopw [5, 20] (fun _ v20 wr => ∃ (i : Nat) (mv : Value), i ≤ len0 ∧ v20 = .int .i64 (i : Int) ∧ CO w wr C mv (x0.take i) i) (fun _ v _ => len0 - (intOf v).toNat)
  case atStart => exact ⟨0, _, by omega, rfl, HC2.out⟩
  case round =>
    obtain ⟨i, mv, hi, rfl, hW⟩ := hrel
    by_cases hlt : i < len0
    · obtain ⟨b, off, q, rfl, hxi, hrg⟩ := ptrs_at HSL.out hW.bel hlt
      have hix := index_ptr b off len0 cap0 i hlt
      have SWC := Lib.hid (size_ptr q)
      have SWR := Lib.hid (size_ptrA q)
      have EW := Lib.hid (HZL.out q)
      have WO := Lib.hid (ptrRow_one q)
      have HRG := Lib.hid hrg
      have HLT := Lib.hid hlt
      have iI : (i : Int) < (len0 : Int) := by omega
      have i0 : (0 : Int) ≤ (i : Int) := by omega
      have HW := Lib.hid hW
      have HNX := Lib.hid (show x0.take (i + 1) = x0.take i ++ [q] by rw [List.take_add_one, hxi]; rfl)
      clear hi hlt hrg hxi hW
      go_upto_region 9 with (first
        | (with_reducible refine wpList_load_mid (op := ⟨some 23, _, _, _, _, _⟩) rfl 27 _ rfl b (off + i * 34) rfl (ptrRow q) _ HRG.out Try.underlying27 rfl SWC.out ?_)
        | (with_reducible refine wpList_store_row (o := ⟨none, .store _ (.tmp 5) _, _, _, _, _⟩) rfl 27 _ _ rfl wr.heap.size (ptrRow q).toArray rfl rfl 27 ZA (heap_alloc_new wr _) SWR.out EW.out WO.out ?_))
      clear hix
      obtain ⟨h7, hb7⟩ := new_row8 wr ZA (ptrRow q).toArray
      generalize World.setRow _ wr.heap.size _ = w7 at *
      have H7 := Lib.hid h7
      have HAD := Lib.hid (padd8 w w7 C i mv _ q (HW.out.below hb7) (by have := HLT.out; have := HS0.out; omega) (by rw [List.length_take]; have := HS0.out; omega))
      clear h7 hb7 HRG SWC EW WO HW
      generalize (ptrRow q).toArray = AR at *
      go_wp2_with (first
        | (with_reducible refine wpList_load_row (o := ⟨some 25, _, _, _, _, _⟩) rfl 27 _ rfl wr.heap.size rfl 27 AR (0, 0) _ H7.out Try.underlying27 rfl SWR.out ?_))
      refine HAD.out.mono ?_
      rintro e w8 ⟨rfl, mv', hc8, hs8⟩
      rw [← HNX.out] at hc8
      have HW8 := Lib.hid hc8
      clear hc8 hs8 HAD H7
      go_wp2_with fail
      go_roundw
      case rel => exact ⟨i + 1, _, by have := HLT.out; omega, by go_num, HW8.out⟩
      case measure => simp [intOf]; have := HLT.out; omega
    · obtain rfl : i = len0 := by omega
      rw [List.take_of_length_le (by have := HLN.out; omega)] at hW
      have HW := Lib.hid hW
      clear hi hlt hW HC2
      have HP1 := Lib.hid (pall8 w wr C i mv x0 HW.out (by unfold distinct; have := allL_short x0; have := HLN.out; have := HS0.out; omega))
      have HNA := Lib.hid (show (allL x0).length ≤ 100 by have := allL_short x0; have := HLN.out; have := HS0.out; omega)
      have HRS := Lib.hid (allL_rise x0)
      have HME := Lib.hid (fun q => (mem_allL x0 q).1)
      go_wp2_with fail
      refine HP1.out.mono ?_
      rintro e wp ⟨v, rfl, hA, hB⟩
      have HC := Lib.hid (HW.out.below hB)
      obtain ⟨a, c, rfl⟩ : ∃ a c, v = .slice a (allL x0).length c := by
        obtain ⟨a, c, e, _⟩ := ps_own hA.1
        exact ⟨a, c, e⟩
      obtain ⟨B6, HB6, HO⟩ : ∃ B6, Hid (∀ g ∈ C :: mbl mv, g < B6) ∧ Hid (wp.ownsRow B6 27 34 (.slice a (allL x0).length c) (allL x0).length (rowsP (allL x0))) :=
        ⟨wr.heap.size, Lib.hid (fun g hg => (HW.out.new_all g hg).2), Lib.hid hA.1⟩
      have HAL := Lib.hid (show ∀ (W : World), CO w W C mv x0 i → ∃ R : Ending → World → Prop, True from fun _ _ => ⟨fun _ _ => True, trivial⟩)
      clear HP1 hA hB HW HAL
      obtain ⟨A, hA⟩ : ∃ A, allL x0 = A := ⟨_, rfl⟩
      rw [hA] at HNA HRS HME HO ⊢
      have HAA := Lib.hid hA
      clear hA
      obtain ⟨n, hn⟩ : ∃ n, A.length = n := ⟨_, rfl⟩
      rw [hn] at HNA HO ⊢
      have HNN := Lib.hid hn
      have n0 : (0 : Int) ≤ (n : Int) := by omega
      have n1 : (n : Int) ≤ 100 := by have := HNA.out; omega
      clear hn
      go_wp2_with fail
      go_loopw [7, 8, 9, 32] (fun _ _ _ v32 wr => ∃ k : Nat, k ≤ n ∧ v32 = .int .i64 (k : Int) ∧ CO w wr C mv x0 i ∧ wr.ownsRow B6 27 34 (.slice a n c) n (rowsP A)) (fun _ _ _ v _ => n - (intOf v).toNat)
      case atStart => exact ⟨0, by omega, rfl, HC.out, HO.out⟩
      case round =>
        clear HC HO
        obtain ⟨k, hk, rfl, hC, hO⟩ := hrel
        by_cases hlt : k < n
        · obtain ⟨a9, c9, e9, hpy⟩ := ps_own hO
          injection e9 with e9 e10 e11
          subst e9
          clear e10 e11
          obtain ⟨q, hxi⟩ : ∃ q, A[k]? = some q := ⟨_, List.getElem?_eq_getElem (by have := HNN.out; omega)⟩
          obtain ⟨b, off, rfl, hrg⟩ := hpy k q hxi
          have HPY := Lib.hid hpy
          have HCQ := Lib.hid (show 1 ≤ x0.count q from List.count_pos_iff.2 (HME.out q (List.mem_of_getElem? hxi)))
          have HXI := Lib.hid hxi
          have hix := index_ptr b off n c k hlt
          have SWC := Lib.hid (size_ptr q)
          have SWR := Lib.hid (size_ptrA q)
          have EW := Lib.hid (HZL.out q)
          have WO := Lib.hid (ptrRow_one q)
          have HRG := Lib.hid hrg
          have HLT := Lib.hid hlt
          have iI : (k : Int) < (n : Int) := by omega
          have i0 : (0 : Int) ≤ (k : Int) := by omega
          have HC := Lib.hid hC
          have HO := Lib.hid hO
          clear hk hlt hrg hxi hC hO hpy
          go_upto_region 15 with (first
            | (with_reducible refine wpList_load_mid (op := ⟨some 36, _, _, _, _, _⟩) rfl 27 _ rfl b (off + k * 34) rfl (ptrRow q) _ HRG.out Try.underlying27 rfl SWC.out ?_)
            | (with_reducible refine wpList_store_row (o := ⟨none, .store _ (.tmp 8) _, _, _, _, _⟩) rfl 27 _ _ rfl wr.heap.size (ptrRow q).toArray rfl rfl 27 ZA (heap_alloc_new wr _) SWR.out EW.out WO.out ?_))
          clear hix
          obtain ⟨h7, hb7⟩ := new_row8 wr ZA (ptrRow q).toArray
          generalize World.setRow _ wr.heap.size _ = w7 at *
          have H7 := Lib.hid h7
          have HC7 := Lib.hid (HC.out.below hb7)
          have HO7 := Lib.hid (own_belowP HO.out hb7)
          have HB7 := Lib.hid hb7
          have HOF := Lib.hid (pof8 w w7 C i mv x0 q HC7.out)
          have cI : (1 : Int) ≤ ((x0.count q : Nat) : Int) := by have := HCQ.out; omega
          generalize ((x0.count q : Nat) : Int) = cq at *
          clear h7 hb7 HRG SWC EW WO HC HO
          obtain ⟨AR, hAR⟩ : ∃ AR, (ptrRow q).toArray = AR := ⟨_, rfl⟩
          rw [hAR] at H7 SWR HOF
          have HAR := Lib.hid hAR
          clear hAR
          go_wp2_with (first
            | (with_reducible refine wpList_load_row (o := ⟨some 38, _, _, _, _, _⟩) rfl 27 _ rfl wr.heap.size rfl 27 AR (0, 0) _ H7.out Try.underlying27 rfl SWR.out ?_))
          refine HOF.out.mono ?_
          rintro e w8 ⟨rfl, hb8⟩
          have HC8 := Lib.hid (HC7.out.below hb8)
          have HO8 := Lib.hid (own_belowP HO7.out hb8)
          have H8 := Lib.hid ((hb8.block wr.heap.size (Array.getElem?_eq_some_iff.1 H7.out).1).trans H7.out)
          have HB8 := Lib.hid (HB7.out.trans (hb8.mono HB7.out.size))
          clear hb8 HOF HC7 HO7 H7 HB7
          by_cases hk0 : k = 0
          · subst hk0
            go_wp2_with fail
            go_roundw
            case rel => exact ⟨1, by have := HLT.out; omega, by go_num, HC8.out, HO8.out⟩
            case measure => simp [intOf]; have := HLT.out; omega
          · obtain ⟨m, hkm⟩ : ∃ m, k = m + 1 := ⟨k - 1, by omega⟩
            have hm : (k : Int) - 1 = (m : Int) := by omega
            have hnz : ((k : Int) == 0) = false := by simp; omega
            obtain ⟨q2, hx2⟩ : ∃ q2, A[m]? = some q2 := ⟨_, List.getElem?_eq_getElem (by have := HNN.out; have := HLT.out; omega)⟩
            obtain ⟨b2, o2, e2, hr2⟩ := HPY.out m q2 hx2
            cases e2
            have HLS := Lib.hid (show nuP q2 < nuP q by
              obtain ⟨h1, h2⟩ := List.getElem?_eq_some_iff.1 hx2
              obtain ⟨h3, h4⟩ := List.getElem?_eq_some_iff.1 HXI.out
              have := List.pairwise_iff_getElem.1 HRS.out m k h1 h3 (by omega)
              rwa [h2, h4] at this)
            have HR2 := Lib.hid (range_below hr2 HB8.out)
            have hix := index_ptr b off n c m (by have := HLT.out; omega)
            have SWC := Lib.hid (size_ptr q2)
            have SWQ := Lib.hid (size_ptrA q2)
            have EW := Lib.hid (HZL.out q2)
            have WO := Lib.hid (ptrRow_one q2)
            have m0 : (0 : Int) ≤ (m : Int) := by omega
            have m1 : (m : Int) < (n : Int) := by omega
            have HKM := Lib.hid hkm
            clear hr2 hx2 hkm hk0 HB8
            go_upto_region 19 with (first
              | (with_reducible refine wpList_load_mid (op := ⟨some 47, _, _, _, _, _⟩) rfl 27 _ rfl b (off + m * 34) rfl (ptrRow q2) _ HR2.out Try.underlying27 rfl SWC.out ?_)
              | (with_reducible refine wpList_store_row (o := ⟨none, .store _ (.tmp 9) _, _, _, _, _⟩) rfl 27 _ _ rfl w8.heap.size (ptrRow q2).toArray rfl rfl 27 ZA (heap_alloc_new w8 _) SWQ.out EW.out WO.out ?_))
            clear hix hm hnz
            obtain ⟨h9, hb9⟩ := new_row8 w8 ZA (ptrRow q2).toArray
            generalize World.setRow _ w8.heap.size _ = w9 at *
            have HC9 := Lib.hid (HC8.out.below hb9)
            have HO9 := Lib.hid (own_belowP HO8.out hb9)
            have h8 := (hb9.block wr.heap.size (Array.getElem?_eq_some_iff.1 H8.out).1).trans H8.out
            rw [← HAR.out] at h8
            generalize wr.heap.size = T8 at *
            generalize w8.heap.size = T9 at *
            obtain ⟨c90, c91, c92⟩ := ptr_range (range_of_row h9)
            obtain ⟨c80, c81, c82⟩ := ptr_range (range_of_row h8)
            have HSS := Lib.hid (show ∀ W : World, Below w9.heap.size w9 W → W.cell? ⟨T9, 0, none⟩ = some (.int .u32 q2.ad) ∧ W.cell? ⟨T9, 1, none⟩ = some (.int .u64 q2.bi) ∧ W.cell? ⟨T8, 0, none⟩ = some (.int .u32 q.ad) ∧ W.cell? ⟨T8, 1, none⟩ = some (.int .u64 q.bi) ∧ BS W (.slice (some ⟨T9, 2, none⟩) 32 32) q2.su ∧ BS W (.slice (some ⟨T8, 2, none⟩) 32 32) q.su from
              fun W hW => by
                obtain ⟨r90, r91, r92⟩ := ptr_range (range_below (range_of_row h9) hW)
                obtain ⟨r80, r81, r82⟩ := ptr_range (range_below (range_of_row h8) hW)
                exact ⟨r90, r91, r80, r81, bs_su T9 q2 r92, bs_su T8 q r82⟩)
            have hs9 := slice_hash_mid T9 2
            have hs8 := slice_hash_mid T8 2
            have HST := Lib.hid (str_less q2.su q.su q2.s0.2 q.s0.2)
            have HOC := Lib.hid (ord_cases HLS.out)
            have HW9 := Lib.hid (Below.refl w9.heap.size w9).drew
            clear h9 hb9 h8 c90 c91 c92 c80 c81 c82 H8 HC8 HO8 HR2 SWC SWQ EW WO HLS HPY HXI hzp
            obtain ⟨QA, hQA⟩ : ∃ QA, q2.ad = QA := ⟨_, rfl⟩
            obtain ⟨QB, hQB⟩ : ∃ QB, q2.bi = QB := ⟨_, rfl⟩
            obtain ⟨QS, hQS⟩ : ∃ QS, q2.su = QS := ⟨_, rfl⟩
            obtain ⟨PA, hPA⟩ : ∃ PA, q.ad = PA := ⟨_, rfl⟩
            obtain ⟨PB, hPB⟩ : ∃ PB, q.bi = PB := ⟨_, rfl⟩
            obtain ⟨PX, hPX⟩ : ∃ PX, q.su = PX := ⟨_, rfl⟩
            rw [hQA, hQB, hQS, hPA, hPB, hPX] at HSS HOC
            rw [hQS, hPX] at HST
            clear hQA hQB hQS hPA hPB hPX
            rcases HOC.out with hca | ⟨hca, hcb⟩ | ⟨hca, hcb, hcc⟩
            · have d1 : ¬ (PA < QA) := by omega
              have d2 : ¬ (QA = PA) := by omega
              have hbq : (QA == PA) = false := by simpa using d2
              clear HOC HST hca
              try simp only [Act.put]
              refine wp_region_noPanic ?_
              refine wp_region_held_drew (S := fun W => W.cell? ⟨T9, 0, none⟩ = some (.int .u32 QA) ∧ W.cell? ⟨T9, 1, none⟩ = some (.int .u64 QB) ∧ W.cell? ⟨T8, 0, none⟩ = some (.int .u32 PA) ∧ W.cell? ⟨T8, 1, none⟩ = some (.int .u64 PB) ∧ BS W (.slice (some ⟨T9, 2, none⟩) 32 32) QS ∧ BS W (.slice (some ⟨T8, 2, none⟩) 32 32) PX) (by kernel_rfl) (HSS.out _ HW9.out) (fun hHeld => ?_)
              refine wpAnyH_take (i := 0) (oi := ⟨some 48, _, _, _, _, _⟩) (v := ?_) rfl (by kernel_rfl) (by decide +kernel) (by decide +kernel) (fun _ _ _ h => h) (Or.inl ⟨by rfl, ?_⟩) (by assumption) ?_
              rotate_left 1
              · (intro w' hSw; go_simp; try with_reducible rfl)
              try simp only [Act.put, List.setIfInBounds_toArray, List.set_cons_zero, List.set_cons_succ]
              refine wpAnyH_take (i := 1) (oi := ⟨some 49, _, _, _, _, _⟩) (v := ?_) rfl (by kernel_rfl) (by decide +kernel) (by decide +kernel) (fun _ _ _ h => h) (Or.inl ⟨by rfl, ?_⟩) (by assumption) ?_
              rotate_left 1
              · (intro w' hSw; have hc := hSw.1; go_simp; try with_reducible rfl)
              try simp only [Act.put, List.setIfInBounds_toArray, List.set_cons_zero, List.set_cons_succ]
              refine wpAnyH_take (i := 2) (oi := ⟨some 50, _, _, _, _, _⟩) (v := ?_) rfl (by kernel_rfl) (by decide +kernel) (by decide +kernel) (fun _ _ _ h => h) (Or.inl ⟨by rfl, ?_⟩) (by assumption) ?_
              rotate_left 1
              · (intro w' hSw; go_simp; try with_reducible rfl)
              try simp only [Act.put, List.setIfInBounds_toArray, List.set_cons_zero, List.set_cons_succ]
              refine wpAnyH_take (i := 3) (oi := ⟨some 51, _, _, _, _, _⟩) (v := ?_) rfl (by kernel_rfl) (by decide +kernel) (by decide +kernel) (fun _ _ _ h => h) (Or.inl ⟨by rfl, ?_⟩) (by assumption) ?_
              rotate_left 1
              · (intro w' hSw; have hc := hSw.2.2.1; go_simp; try with_reducible rfl)
              try simp only [Act.put, List.setIfInBounds_toArray, List.set_cons_zero, List.set_cons_succ]
              refine wpAnyH_take (i := 4) (oi := ⟨some 52, _, _, _, _, _⟩) (v := ?_) rfl (by kernel_rfl) (by decide +kernel) (by decide +kernel) (fun _ _ _ h => h) (Or.inl ⟨by rfl, ?_⟩) (by assumption) ?_
              rotate_left 1
              · (intro w' hSw; go_simp; try with_reducible rfl)
              try simp only [Act.put, List.setIfInBounds_toArray, List.set_cons_zero, List.set_cons_succ]
              try simp only [decide_eq_false d1, decide_eq_false d2, hbq]
              refine wpAnyH_take (i := 5) (oi := ⟨some 53, _, _, _, _, _⟩) (v := ?_) rfl (by kernel_rfl) (by decide +kernel) (by decide +kernel) (fun _ _ _ h => h) (Or.inl ⟨by rfl, ?_⟩) (by assumption) ?_
              rotate_left 1
              · (intro w' hSw; go_simp; try with_reducible rfl)
              try simp only [Act.put, List.setIfInBounds_toArray, List.set_cons_zero, List.set_cons_succ]
              refine wpAnyH_take (i := 6) (oi := ⟨some 54, _, _, _, _, _⟩) (v := ?_) rfl (by kernel_rfl) (by decide +kernel) (by decide +kernel) (fun _ _ _ h => h) (Or.inl ⟨by rfl, ?_⟩) (by assumption) ?_
              rotate_left 1
              · (intro w' hSw; go_simp; try with_reducible rfl)
              try simp only [Act.put, List.setIfInBounds_toArray, List.set_cons_zero, List.set_cons_succ]
              refine wpAnyH_take (i := 7) (oi := ⟨some 55, _, _, _, _, _⟩) (v := ?_) rfl (by kernel_rfl) (by decide +kernel) (by decide +kernel) (fun _ _ _ h => h) (Or.inl ⟨by rfl, ?_⟩) (by assumption) ?_
              rotate_left 1
              · (intro w' hSw; have hc := hSw.1; go_simp; try with_reducible rfl)
              try simp only [Act.put, List.setIfInBounds_toArray, List.set_cons_zero, List.set_cons_succ]
              refine wpAnyH_take (i := 8) (oi := ⟨some 56, _, _, _, _, _⟩) (v := ?_) rfl (by kernel_rfl) (by decide +kernel) (by decide +kernel) (fun _ _ _ h => h) (Or.inl ⟨by rfl, ?_⟩) (by assumption) ?_
              rotate_left 1
              · (intro w' hSw; go_simp; try with_reducible rfl)
              try simp only [Act.put, List.setIfInBounds_toArray, List.set_cons_zero, List.set_cons_succ]
              refine wpAnyH_take (i := 9) (oi := ⟨some 57, _, _, _, _, _⟩) (v := ?_) rfl (by kernel_rfl) (by decide +kernel) (by decide +kernel) (fun _ _ _ h => h) (Or.inl ⟨by rfl, ?_⟩) (by assumption) ?_
              rotate_left 1
              · (intro w' hSw; have hc := hSw.2.2.1; go_simp; try with_reducible rfl)
              try simp only [Act.put, List.setIfInBounds_toArray, List.set_cons_zero, List.set_cons_succ]
              refine wpAnyH_take (i := 10) (oi := ⟨some 58, _, _, _, _, _⟩) (v := ?_) rfl (by kernel_rfl) (by decide +kernel) (by decide +kernel) (fun _ _ _ h => h) (Or.inl ⟨by rfl, ?_⟩) (by assumption) ?_
              rotate_left 1
              · (intro w' hSw; go_simp; try with_reducible rfl)
              try simp only [Act.put, List.setIfInBounds_toArray, List.set_cons_zero, List.set_cons_succ]
              try simp only [decide_eq_false d1, decide_eq_false d2, hbq]
              refine wpAnyH_take (i := 11) (oi := ⟨some 59, _, _, _, _, _⟩) (v := ?_) rfl (by kernel_rfl) (by decide +kernel) (by decide +kernel) (fun _ _ _ h => h) (Or.inl ⟨by rfl, ?_⟩) (by assumption) ?_
              rotate_left 1
              · (intro w' hSw; go_simp; try with_reducible rfl)
              try simp only [Act.put, List.setIfInBounds_toArray, List.set_cons_zero, List.set_cons_succ]
              refine wpAnyH_take (i := 12) (oi := ⟨some 60, _, _, _, _, _⟩) (v := undef) rfl (by kernel_rfl) (by decide +kernel) (by decide +kernel) (fun _ _ _ h => h) (Or.inr ⟨by rfl, rfl⟩) (by assumption) ?_
              try simp only [Act.put, List.setIfInBounds_toArray, List.set_cons_zero, List.set_cons_succ]
              refine wpAnyH_take (i := 13) (oi := ⟨some 61, _, _, _, _, _⟩) (v := undef) rfl (by kernel_rfl) (by decide +kernel) (by decide +kernel) (fun _ _ _ h => h) (Or.inr ⟨by rfl, rfl⟩) (by assumption) ?_
              try simp only [Act.put, List.setIfInBounds_toArray, List.set_cons_zero, List.set_cons_succ]
              refine wpAnyH_take (i := 14) (oi := ⟨some 62, _, _, _, _, _⟩) (v := undef) rfl (by kernel_rfl) (by decide +kernel) (by decide +kernel) (fun _ _ _ h => h) (Or.inr ⟨by rfl, rfl⟩) (by assumption) ?_
              try simp only [Act.put, List.setIfInBounds_toArray, List.set_cons_zero, List.set_cons_succ]
              refine wpAnyH_take (i := 15) (oi := ⟨some 63, _, _, _, _, _⟩) (v := undef) rfl (by kernel_rfl) (by decide +kernel) (by decide +kernel) (fun _ _ _ h => h) (Or.inr ⟨by rfl, rfl⟩) (by assumption) ?_
              try simp only [Act.put, List.setIfInBounds_toArray, List.set_cons_zero, List.set_cons_succ]
              refine wpAnyH_take (i := 16) (oi := ⟨some 64, _, _, _, _, _⟩) (v := undef) rfl (by kernel_rfl) (by decide +kernel) (by decide +kernel) (fun _ _ _ h => h) (Or.inr ⟨by rfl, rfl⟩) (by assumption) ?_
              try simp only [Act.put, List.setIfInBounds_toArray, List.set_cons_zero, List.set_cons_succ]
              refine wpAnyH_take (i := 17) (oi := ⟨some 65, _, _, _, _, _⟩) (v := undef) rfl (by kernel_rfl) (by decide +kernel) (by decide +kernel) (fun _ _ _ h => h) (Or.inr ⟨by rfl, rfl⟩) (by assumption) ?_
              try simp only [Act.put, List.setIfInBounds_toArray, List.set_cons_zero, List.set_cons_succ]
              refine wpAnyH_take (i := 18) (oi := ⟨some 66, _, _, _, _, _⟩) (v := undef) rfl (by kernel_rfl) (by decide +kernel) (by decide +kernel) (fun _ _ _ h => h) (Or.inr ⟨by rfl, rfl⟩) (by assumption) ?_
              try simp only [Act.put, List.setIfInBounds_toArray, List.set_cons_zero, List.set_cons_succ]
              refine wpAnyH_take (i := 19) (oi := ⟨some 67, _, _, _, _, _⟩) (v := undef) rfl (by kernel_rfl) (by decide +kernel) (by decide +kernel) (fun _ _ _ h => h) (Or.inr ⟨by rfl, rfl⟩) (by assumption) ?_
              try simp only [Act.put, List.setIfInBounds_toArray, List.set_cons_zero, List.set_cons_succ]
              refine wpAnyH_take (i := 20) (oi := ⟨some 68, _, _, _, _, _⟩) (v := undef) rfl (by kernel_rfl) (by decide +kernel) (by decide +kernel) (fun _ _ _ h => h) (Or.inr ⟨by rfl, rfl⟩) (by assumption) ?_
              try simp only [Act.put, List.setIfInBounds_toArray, List.set_cons_zero, List.set_cons_succ]
              refine wpAnyH_take (i := 21) (oi := ⟨some 69, _, _, _, _, _⟩) (v := undef) rfl (by kernel_rfl) (by decide +kernel) (by decide +kernel) (fun _ _ _ h => h) (Or.inr ⟨by rfl, rfl⟩) (by assumption) ?_
              try simp only [Act.put, List.setIfInBounds_toArray, List.set_cons_zero, List.set_cons_succ]
              refine wpAnyH_take (i := 22) (oi := ⟨some 70, _, _, _, _, _⟩) (v := undef) rfl (by kernel_rfl) (by decide +kernel) (by decide +kernel) (fun _ _ _ h => h) (Or.inr ⟨by rfl, rfl⟩) (by assumption) ?_
              try simp only [Act.put, List.setIfInBounds_toArray, List.set_cons_zero, List.set_cons_succ]
              refine wpAnyH_take (i := 23) (oi := ⟨some 71, _, _, _, _, _⟩) (v := undef) rfl (by kernel_rfl) (by decide +kernel) (by decide +kernel) (fun _ _ _ h => h) (Or.inr ⟨by rfl, rfl⟩) (by assumption) ?_
              try simp only [Act.put, List.setIfInBounds_toArray, List.set_cons_zero, List.set_cons_succ]
              refine wpAnyH_take (i := 24) (oi := ⟨some 72, _, _, _, _, _⟩) (v := undef) rfl (by kernel_rfl) (by decide +kernel) (by decide +kernel) (fun _ _ _ h => h) (Or.inr ⟨by rfl, rfl⟩) (by assumption) ?_
              try simp only [Act.put, List.setIfInBounds_toArray, List.set_cons_zero, List.set_cons_succ]
              refine wpAnyH_take (i := 25) (oi := ⟨some 73, _, _, _, _, _⟩) (v := undef) rfl (by kernel_rfl) (by decide +kernel) (by decide +kernel) (fun _ _ _ h => h) (Or.inr ⟨by rfl, rfl⟩) (by assumption) ?_
              try simp only [Act.put, List.setIfInBounds_toArray, List.set_cons_zero, List.set_cons_succ]
              refine wpAnyH_take (i := 26) (oi := ⟨some 74, _, _, _, _, _⟩) (v := undef) rfl (by kernel_rfl) (by decide +kernel) (by decide +kernel) (fun _ _ _ h => h) (Or.inr ⟨by rfl, rfl⟩) (by assumption) ?_
              try simp only [Act.put, List.setIfInBounds_toArray, List.set_cons_zero, List.set_cons_succ]
              refine wpAnyH_take (i := 27) (oi := ⟨some 75, _, _, _, _, _⟩) (v := undef) rfl (by kernel_rfl) (by decide +kernel) (by decide +kernel) (fun _ _ _ h => h) (Or.inr ⟨by rfl, rfl⟩) (by assumption) ?_
              try simp only [Act.put, List.setIfInBounds_toArray, List.set_cons_zero, List.set_cons_succ]
              refine wpAnyH_take (i := 28) (oi := ⟨some 76, _, _, _, _, _⟩) (v := undef) rfl (by kernel_rfl) (by decide +kernel) (by decide +kernel) (fun _ _ _ h => h) (Or.inr ⟨by rfl, rfl⟩) (by assumption) ?_
              try simp only [Act.put, List.setIfInBounds_toArray, List.set_cons_zero, List.set_cons_succ]
              refine wpAnyH_take (i := 29) (oi := ⟨some 77, _, _, _, _, _⟩) (v := undef) rfl (by kernel_rfl) (by decide +kernel) (by decide +kernel) (fun _ _ _ h => h) (Or.inr ⟨by rfl, rfl⟩) (by assumption) ?_
              try simp only [Act.put, List.setIfInBounds_toArray, List.set_cons_zero, List.set_cons_succ]
              refine wpAnyH_take (i := 30) (oi := ⟨some 78, _, _, _, _, _⟩) (v := undef) rfl (by kernel_rfl) (by decide +kernel) (by decide +kernel) (fun _ _ _ h => h) (Or.inr ⟨by rfl, rfl⟩) (by assumption) ?_
              try simp only [Act.put, List.setIfInBounds_toArray, List.set_cons_zero, List.set_cons_succ]
              refine wpAnyH_take (i := 31) (oi := ⟨some 79, _, _, _, _, _⟩) (v := undef) rfl (by kernel_rfl) (by decide +kernel) (by decide +kernel) (fun _ _ _ h => h) (Or.inr ⟨by rfl, rfl⟩) (by assumption) ?_
              try simp only [Act.put, List.setIfInBounds_toArray, List.set_cons_zero, List.set_cons_succ]
              refine wpAnyH_take (i := 32) (oi := ⟨some 80, _, _, _, _, _⟩) (v := undef) rfl (by kernel_rfl) (by decide +kernel) (by decide +kernel) (fun _ _ _ h => h) (Or.inr ⟨by rfl, rfl⟩) (by assumption) ?_
              try simp only [Act.put, List.setIfInBounds_toArray, List.set_cons_zero, List.set_cons_succ]
              refine wpAnyH_take (i := 33) (oi := ⟨some 81, _, _, _, _, _⟩) (v := ?_) rfl (by kernel_rfl) (by decide +kernel) (by decide +kernel) (fun _ _ _ h => h) (Or.inl ⟨by rfl, ?_⟩) (by assumption) ?_
              rotate_left 1
              · (intro w' hSw; go_simp; try with_reducible rfl)
              try simp only [Act.put, List.setIfInBounds_toArray, List.set_cons_zero, List.set_cons_succ]
              refine wpAnyH_take (i := 34) (oi := ⟨some 82, _, _, _, _, _⟩) (v := ?_) rfl (by kernel_rfl) (by decide +kernel) (by decide +kernel) (fun _ _ _ h => h) (Or.inl ⟨by rfl, ?_⟩) (by assumption) ?_
              rotate_left 1
              · (intro w' hSw; go_simp; try with_reducible rfl)
              try simp only [Act.put, List.setIfInBounds_toArray, List.set_cons_zero, List.set_cons_succ]
              clear hHeld
              refine wpAnyH_done (by decide +kernel) ?_ _
              refine NoPanic.normal ?_
              have HC9' := Lib.hid (HC9.out.below HW9.out)
              have HO9' := Lib.hid (own_belowP HO9.out HW9.out)
              clear HC9 HO9 HW9 HSS
              go_wp2_with fail
              go_roundw
              case rel => exact ⟨k + 1, by have := HLT.out; omega, by go_num, HC9'.out, HO9'.out⟩
              case measure => simp [intOf]; have := HLT.out; omega
            · subst hca
              have d1 : ¬ (PB < QB) := by omega
              have d2 : ¬ (QB = PB) := by omega
              have hbq : (QB == PB) = false := by simpa using d2
              clear HOC HST hcb
              try simp only [Act.put]
              refine wp_region_noPanic ?_
              refine wp_region_held_drew (S := fun W => W.cell? ⟨T9, 0, none⟩ = some (.int .u32 QA) ∧ W.cell? ⟨T9, 1, none⟩ = some (.int .u64 QB) ∧ W.cell? ⟨T8, 0, none⟩ = some (.int .u32 QA) ∧ W.cell? ⟨T8, 1, none⟩ = some (.int .u64 PB) ∧ BS W (.slice (some ⟨T9, 2, none⟩) 32 32) QS ∧ BS W (.slice (some ⟨T8, 2, none⟩) 32 32) PX) (by kernel_rfl) (HSS.out _ HW9.out) (fun hHeld => ?_)
              refine wpAnyH_take (i := 0) (oi := ⟨some 48, _, _, _, _, _⟩) (v := ?_) rfl (by kernel_rfl) (by decide +kernel) (by decide +kernel) (fun _ _ _ h => h) (Or.inl ⟨by rfl, ?_⟩) (by assumption) ?_
              rotate_left 1
              · (intro w' hSw; go_simp; try with_reducible rfl)
              try simp only [Act.put, List.setIfInBounds_toArray, List.set_cons_zero, List.set_cons_succ]
              refine wpAnyH_take (i := 1) (oi := ⟨some 49, _, _, _, _, _⟩) (v := ?_) rfl (by kernel_rfl) (by decide +kernel) (by decide +kernel) (fun _ _ _ h => h) (Or.inl ⟨by rfl, ?_⟩) (by assumption) ?_
              rotate_left 1
              · (intro w' hSw; have hc := hSw.1; go_simp; try with_reducible rfl)
              try simp only [Act.put, List.setIfInBounds_toArray, List.set_cons_zero, List.set_cons_succ]
              refine wpAnyH_take (i := 2) (oi := ⟨some 50, _, _, _, _, _⟩) (v := ?_) rfl (by kernel_rfl) (by decide +kernel) (by decide +kernel) (fun _ _ _ h => h) (Or.inl ⟨by rfl, ?_⟩) (by assumption) ?_
              rotate_left 1
              · (intro w' hSw; go_simp; try with_reducible rfl)
              try simp only [Act.put, List.setIfInBounds_toArray, List.set_cons_zero, List.set_cons_succ]
              refine wpAnyH_take (i := 3) (oi := ⟨some 51, _, _, _, _, _⟩) (v := ?_) rfl (by kernel_rfl) (by decide +kernel) (by decide +kernel) (fun _ _ _ h => h) (Or.inl ⟨by rfl, ?_⟩) (by assumption) ?_
              rotate_left 1
              · (intro w' hSw; have hc := hSw.2.2.1; go_simp; try with_reducible rfl)
              try simp only [Act.put, List.setIfInBounds_toArray, List.set_cons_zero, List.set_cons_succ]
              refine wpAnyH_take (i := 4) (oi := ⟨some 52, _, _, _, _, _⟩) (v := ?_) rfl (by kernel_rfl) (by decide +kernel) (by decide +kernel) (fun _ _ _ h => h) (Or.inl ⟨by rfl, ?_⟩) (by assumption) ?_
              rotate_left 1
              · (intro w' hSw; go_simp; try with_reducible rfl)
              try simp only [Act.put, List.setIfInBounds_toArray, List.set_cons_zero, List.set_cons_succ]
              refine wpAnyH_take (i := 5) (oi := ⟨some 53, _, _, _, _, _⟩) (v := ?_) rfl (by kernel_rfl) (by decide +kernel) (by decide +kernel) (fun _ _ _ h => h) (Or.inl ⟨by rfl, ?_⟩) (by assumption) ?_
              rotate_left 1
              · (intro w' hSw; go_simp; try with_reducible rfl)
              try simp only [Act.put, List.setIfInBounds_toArray, List.set_cons_zero, List.set_cons_succ]
              refine wpAnyH_take (i := 6) (oi := ⟨some 54, _, _, _, _, _⟩) (v := ?_) rfl (by kernel_rfl) (by decide +kernel) (by decide +kernel) (fun _ _ _ h => h) (Or.inl ⟨by rfl, ?_⟩) (by assumption) ?_
              rotate_left 1
              · (intro w' hSw; go_simp; try with_reducible rfl)
              try simp only [Act.put, List.setIfInBounds_toArray, List.set_cons_zero, List.set_cons_succ]
              refine wpAnyH_take (i := 7) (oi := ⟨some 55, _, _, _, _, _⟩) (v := ?_) rfl (by kernel_rfl) (by decide +kernel) (by decide +kernel) (fun _ _ _ h => h) (Or.inl ⟨by rfl, ?_⟩) (by assumption) ?_
              rotate_left 1
              · (intro w' hSw; have hc := hSw.1; go_simp; try with_reducible rfl)
              try simp only [Act.put, List.setIfInBounds_toArray, List.set_cons_zero, List.set_cons_succ]
              refine wpAnyH_take (i := 8) (oi := ⟨some 56, _, _, _, _, _⟩) (v := ?_) rfl (by kernel_rfl) (by decide +kernel) (by decide +kernel) (fun _ _ _ h => h) (Or.inl ⟨by rfl, ?_⟩) (by assumption) ?_
              rotate_left 1
              · (intro w' hSw; go_simp; try with_reducible rfl)
              try simp only [Act.put, List.setIfInBounds_toArray, List.set_cons_zero, List.set_cons_succ]
              refine wpAnyH_take (i := 9) (oi := ⟨some 57, _, _, _, _, _⟩) (v := ?_) rfl (by kernel_rfl) (by decide +kernel) (by decide +kernel) (fun _ _ _ h => h) (Or.inl ⟨by rfl, ?_⟩) (by assumption) ?_
              rotate_left 1
              · (intro w' hSw; have hc := hSw.2.2.1; go_simp; try with_reducible rfl)
              try simp only [Act.put, List.setIfInBounds_toArray, List.set_cons_zero, List.set_cons_succ]
              refine wpAnyH_take (i := 10) (oi := ⟨some 58, _, _, _, _, _⟩) (v := ?_) rfl (by kernel_rfl) (by decide +kernel) (by decide +kernel) (fun _ _ _ h => h) (Or.inl ⟨by rfl, ?_⟩) (by assumption) ?_
              rotate_left 1
              · (intro w' hSw; go_simp; try with_reducible rfl)
              try simp only [Act.put, List.setIfInBounds_toArray, List.set_cons_zero, List.set_cons_succ]
              refine wpAnyH_take (i := 11) (oi := ⟨some 59, _, _, _, _, _⟩) (v := ?_) rfl (by kernel_rfl) (by decide +kernel) (by decide +kernel) (fun _ _ _ h => h) (Or.inl ⟨by rfl, ?_⟩) (by assumption) ?_
              rotate_left 1
              · (intro w' hSw; go_simp; try with_reducible rfl)
              try simp only [Act.put, List.setIfInBounds_toArray, List.set_cons_zero, List.set_cons_succ]
              refine wpAnyH_take (i := 12) (oi := ⟨some 60, _, _, _, _, _⟩) (v := ?_) rfl (by kernel_rfl) (by decide +kernel) (by decide +kernel) (fun _ _ _ h => h) (Or.inl ⟨by rfl, ?_⟩) (by assumption) ?_
              rotate_left 1
              · (intro w' hSw; go_simp; try with_reducible rfl)
              try simp only [Act.put, List.setIfInBounds_toArray, List.set_cons_zero, List.set_cons_succ]
              refine wpAnyH_take (i := 13) (oi := ⟨some 61, _, _, _, _, _⟩) (v := ?_) rfl (by kernel_rfl) (by decide +kernel) (by decide +kernel) (fun _ _ _ h => h) (Or.inl ⟨by rfl, ?_⟩) (by assumption) ?_
              rotate_left 1
              · (intro w' hSw; have hc := hSw.2.1; go_simp; try with_reducible rfl)
              try simp only [Act.put, List.setIfInBounds_toArray, List.set_cons_zero, List.set_cons_succ]
              refine wpAnyH_take (i := 14) (oi := ⟨some 62, _, _, _, _, _⟩) (v := ?_) rfl (by kernel_rfl) (by decide +kernel) (by decide +kernel) (fun _ _ _ h => h) (Or.inl ⟨by rfl, ?_⟩) (by assumption) ?_
              rotate_left 1
              · (intro w' hSw; go_simp; try with_reducible rfl)
              try simp only [Act.put, List.setIfInBounds_toArray, List.set_cons_zero, List.set_cons_succ]
              refine wpAnyH_take (i := 15) (oi := ⟨some 63, _, _, _, _, _⟩) (v := ?_) rfl (by kernel_rfl) (by decide +kernel) (by decide +kernel) (fun _ _ _ h => h) (Or.inl ⟨by rfl, ?_⟩) (by assumption) ?_
              rotate_left 1
              · (intro w' hSw; have hc := hSw.2.2.2.1; go_simp; try with_reducible rfl)
              try simp only [Act.put, List.setIfInBounds_toArray, List.set_cons_zero, List.set_cons_succ]
              refine wpAnyH_take (i := 16) (oi := ⟨some 64, _, _, _, _, _⟩) (v := ?_) rfl (by kernel_rfl) (by decide +kernel) (by decide +kernel) (fun _ _ _ h => h) (Or.inl ⟨by rfl, ?_⟩) (by assumption) ?_
              rotate_left 1
              · (intro w' hSw; go_simp; try with_reducible rfl)
              try simp only [Act.put, List.setIfInBounds_toArray, List.set_cons_zero, List.set_cons_succ]
              try simp only [decide_eq_false d1, decide_eq_false d2, hbq]
              refine wpAnyH_take (i := 17) (oi := ⟨some 65, _, _, _, _, _⟩) (v := ?_) rfl (by kernel_rfl) (by decide +kernel) (by decide +kernel) (fun _ _ _ h => h) (Or.inl ⟨by rfl, ?_⟩) (by assumption) ?_
              rotate_left 1
              · (intro w' hSw; go_simp; try with_reducible rfl)
              try simp only [Act.put, List.setIfInBounds_toArray, List.set_cons_zero, List.set_cons_succ]
              refine wpAnyH_take (i := 18) (oi := ⟨some 66, _, _, _, _, _⟩) (v := ?_) rfl (by kernel_rfl) (by decide +kernel) (by decide +kernel) (fun _ _ _ h => h) (Or.inl ⟨by rfl, ?_⟩) (by assumption) ?_
              rotate_left 1
              · (intro w' hSw; go_simp; try with_reducible rfl)
              try simp only [Act.put, List.setIfInBounds_toArray, List.set_cons_zero, List.set_cons_succ]
              refine wpAnyH_take (i := 19) (oi := ⟨some 67, _, _, _, _, _⟩) (v := ?_) rfl (by kernel_rfl) (by decide +kernel) (by decide +kernel) (fun _ _ _ h => h) (Or.inl ⟨by rfl, ?_⟩) (by assumption) ?_
              rotate_left 1
              · (intro w' hSw; have hc := hSw.2.1; go_simp; try with_reducible rfl)
              try simp only [Act.put, List.setIfInBounds_toArray, List.set_cons_zero, List.set_cons_succ]
              refine wpAnyH_take (i := 20) (oi := ⟨some 68, _, _, _, _, _⟩) (v := ?_) rfl (by kernel_rfl) (by decide +kernel) (by decide +kernel) (fun _ _ _ h => h) (Or.inl ⟨by rfl, ?_⟩) (by assumption) ?_
              rotate_left 1
              · (intro w' hSw; go_simp; try with_reducible rfl)
              try simp only [Act.put, List.setIfInBounds_toArray, List.set_cons_zero, List.set_cons_succ]
              refine wpAnyH_take (i := 21) (oi := ⟨some 69, _, _, _, _, _⟩) (v := ?_) rfl (by kernel_rfl) (by decide +kernel) (by decide +kernel) (fun _ _ _ h => h) (Or.inl ⟨by rfl, ?_⟩) (by assumption) ?_
              rotate_left 1
              · (intro w' hSw; have hc := hSw.2.2.2.1; go_simp; try with_reducible rfl)
              try simp only [Act.put, List.setIfInBounds_toArray, List.set_cons_zero, List.set_cons_succ]
              refine wpAnyH_take (i := 22) (oi := ⟨some 70, _, _, _, _, _⟩) (v := ?_) rfl (by kernel_rfl) (by decide +kernel) (by decide +kernel) (fun _ _ _ h => h) (Or.inl ⟨by rfl, ?_⟩) (by assumption) ?_
              rotate_left 1
              · (intro w' hSw; go_simp; try with_reducible rfl)
              try simp only [Act.put, List.setIfInBounds_toArray, List.set_cons_zero, List.set_cons_succ]
              try simp only [decide_eq_false d1, decide_eq_false d2, hbq]
              refine wpAnyH_take (i := 23) (oi := ⟨some 71, _, _, _, _, _⟩) (v := ?_) rfl (by kernel_rfl) (by decide +kernel) (by decide +kernel) (fun _ _ _ h => h) (Or.inl ⟨by rfl, ?_⟩) (by assumption) ?_
              rotate_left 1
              · (intro w' hSw; go_simp; try with_reducible rfl)
              try simp only [Act.put, List.setIfInBounds_toArray, List.set_cons_zero, List.set_cons_succ]
              refine wpAnyH_take (i := 24) (oi := ⟨some 72, _, _, _, _, _⟩) (v := undef) rfl (by kernel_rfl) (by decide +kernel) (by decide +kernel) (fun _ _ _ h => h) (Or.inr ⟨by rfl, rfl⟩) (by assumption) ?_
              try simp only [Act.put, List.setIfInBounds_toArray, List.set_cons_zero, List.set_cons_succ]
              refine wpAnyH_take (i := 25) (oi := ⟨some 73, _, _, _, _, _⟩) (v := undef) rfl (by kernel_rfl) (by decide +kernel) (by decide +kernel) (fun _ _ _ h => h) (Or.inr ⟨by rfl, rfl⟩) (by assumption) ?_
              try simp only [Act.put, List.setIfInBounds_toArray, List.set_cons_zero, List.set_cons_succ]
              refine wpAnyH_take (i := 26) (oi := ⟨some 74, _, _, _, _, _⟩) (v := undef) rfl (by kernel_rfl) (by decide +kernel) (by decide +kernel) (fun _ _ _ h => h) (Or.inr ⟨by rfl, rfl⟩) (by assumption) ?_
              try simp only [Act.put, List.setIfInBounds_toArray, List.set_cons_zero, List.set_cons_succ]
              refine wpAnyH_take (i := 27) (oi := ⟨some 75, _, _, _, _, _⟩) (v := undef) rfl (by kernel_rfl) (by decide +kernel) (by decide +kernel) (fun _ _ _ h => h) (Or.inr ⟨by rfl, rfl⟩) (by assumption) ?_
              try simp only [Act.put, List.setIfInBounds_toArray, List.set_cons_zero, List.set_cons_succ]
              refine wpAnyH_take (i := 28) (oi := ⟨some 76, _, _, _, _, _⟩) (v := undef) rfl (by kernel_rfl) (by decide +kernel) (by decide +kernel) (fun _ _ _ h => h) (Or.inr ⟨by rfl, rfl⟩) (by assumption) ?_
              try simp only [Act.put, List.setIfInBounds_toArray, List.set_cons_zero, List.set_cons_succ]
              refine wpAnyH_take (i := 29) (oi := ⟨some 77, _, _, _, _, _⟩) (v := undef) rfl (by kernel_rfl) (by decide +kernel) (by decide +kernel) (fun _ _ _ h => h) (Or.inr ⟨by rfl, rfl⟩) (by assumption) ?_
              try simp only [Act.put, List.setIfInBounds_toArray, List.set_cons_zero, List.set_cons_succ]
              refine wpAnyH_take (i := 30) (oi := ⟨some 78, _, _, _, _, _⟩) (v := undef) rfl (by kernel_rfl) (by decide +kernel) (by decide +kernel) (fun _ _ _ h => h) (Or.inr ⟨by rfl, rfl⟩) (by assumption) ?_
              try simp only [Act.put, List.setIfInBounds_toArray, List.set_cons_zero, List.set_cons_succ]
              refine wpAnyH_take (i := 31) (oi := ⟨some 79, _, _, _, _, _⟩) (v := ?_) rfl (by kernel_rfl) (by decide +kernel) (by decide +kernel) (fun _ _ _ h => h) (Or.inl ⟨by rfl, ?_⟩) (by assumption) ?_
              rotate_left 1
              · (intro w' hSw; go_simp; try with_reducible rfl)
              try simp only [Act.put, List.setIfInBounds_toArray, List.set_cons_zero, List.set_cons_succ]
              refine wpAnyH_take (i := 32) (oi := ⟨some 80, _, _, _, _, _⟩) (v := ?_) rfl (by kernel_rfl) (by decide +kernel) (by decide +kernel) (fun _ _ _ h => h) (Or.inl ⟨by rfl, ?_⟩) (by assumption) ?_
              rotate_left 1
              · (intro w' hSw; go_simp; try with_reducible rfl)
              try simp only [Act.put, List.setIfInBounds_toArray, List.set_cons_zero, List.set_cons_succ]
              refine wpAnyH_take (i := 33) (oi := ⟨some 81, _, _, _, _, _⟩) (v := ?_) rfl (by kernel_rfl) (by decide +kernel) (by decide +kernel) (fun _ _ _ h => h) (Or.inl ⟨by rfl, ?_⟩) (by assumption) ?_
              rotate_left 1
              · (intro w' hSw; go_simp; try with_reducible rfl)
              try simp only [Act.put, List.setIfInBounds_toArray, List.set_cons_zero, List.set_cons_succ]
              refine wpAnyH_take (i := 34) (oi := ⟨some 82, _, _, _, _, _⟩) (v := ?_) rfl (by kernel_rfl) (by decide +kernel) (by decide +kernel) (fun _ _ _ h => h) (Or.inl ⟨by rfl, ?_⟩) (by assumption) ?_
              rotate_left 1
              · (intro w' hSw; go_simp; try with_reducible rfl)
              try simp only [Act.put, List.setIfInBounds_toArray, List.set_cons_zero, List.set_cons_succ]
              clear hHeld
              refine wpAnyH_done (by decide +kernel) ?_ _
              refine NoPanic.normal ?_
              have HC9' := Lib.hid (HC9.out.below HW9.out)
              have HO9' := Lib.hid (own_belowP HO9.out HW9.out)
              clear HC9 HO9 HW9 HSS
              go_wp2_with fail
              go_roundw
              case rel => exact ⟨k + 1, by have := HLT.out; omega, by go_num, HC9'.out, HO9'.out⟩
              case measure => simp [intOf]; have := HLT.out; omega
            · subst hca
              subst hcb
              rw [decide_eq_true hcc] at HST
              have hst := HST.out
              clear HOC HST hcc
              try simp only [Act.put]
              refine wp_region_noPanic ?_
              refine wp_region_held_drew (S := fun W => W.cell? ⟨T9, 0, none⟩ = some (.int .u32 QA) ∧ W.cell? ⟨T9, 1, none⟩ = some (.int .u64 QB) ∧ W.cell? ⟨T8, 0, none⟩ = some (.int .u32 QA) ∧ W.cell? ⟨T8, 1, none⟩ = some (.int .u64 QB) ∧ BS W (.slice (some ⟨T9, 2, none⟩) 32 32) QS ∧ BS W (.slice (some ⟨T8, 2, none⟩) 32 32) PX) (by kernel_rfl) (HSS.out _ HW9.out) (fun hHeld => ?_)
              refine wpAnyH_take (i := 0) (oi := ⟨some 48, _, _, _, _, _⟩) (v := ?_) rfl (by kernel_rfl) (by decide +kernel) (by decide +kernel) (fun _ _ _ h => h) (Or.inl ⟨by rfl, ?_⟩) (by assumption) ?_
              rotate_left 1
              · (intro w' hSw; go_simp; try with_reducible rfl)
              try simp only [Act.put, List.setIfInBounds_toArray, List.set_cons_zero, List.set_cons_succ]
              refine wpAnyH_take (i := 1) (oi := ⟨some 49, _, _, _, _, _⟩) (v := ?_) rfl (by kernel_rfl) (by decide +kernel) (by decide +kernel) (fun _ _ _ h => h) (Or.inl ⟨by rfl, ?_⟩) (by assumption) ?_
              rotate_left 1
              · (intro w' hSw; have hc := hSw.1; go_simp; try with_reducible rfl)
              try simp only [Act.put, List.setIfInBounds_toArray, List.set_cons_zero, List.set_cons_succ]
              refine wpAnyH_take (i := 2) (oi := ⟨some 50, _, _, _, _, _⟩) (v := ?_) rfl (by kernel_rfl) (by decide +kernel) (by decide +kernel) (fun _ _ _ h => h) (Or.inl ⟨by rfl, ?_⟩) (by assumption) ?_
              rotate_left 1
              · (intro w' hSw; go_simp; try with_reducible rfl)
              try simp only [Act.put, List.setIfInBounds_toArray, List.set_cons_zero, List.set_cons_succ]
              refine wpAnyH_take (i := 3) (oi := ⟨some 51, _, _, _, _, _⟩) (v := ?_) rfl (by kernel_rfl) (by decide +kernel) (by decide +kernel) (fun _ _ _ h => h) (Or.inl ⟨by rfl, ?_⟩) (by assumption) ?_
              rotate_left 1
              · (intro w' hSw; have hc := hSw.2.2.1; go_simp; try with_reducible rfl)
              try simp only [Act.put, List.setIfInBounds_toArray, List.set_cons_zero, List.set_cons_succ]
              refine wpAnyH_take (i := 4) (oi := ⟨some 52, _, _, _, _, _⟩) (v := ?_) rfl (by kernel_rfl) (by decide +kernel) (by decide +kernel) (fun _ _ _ h => h) (Or.inl ⟨by rfl, ?_⟩) (by assumption) ?_
              rotate_left 1
              · (intro w' hSw; go_simp; try with_reducible rfl)
              try simp only [Act.put, List.setIfInBounds_toArray, List.set_cons_zero, List.set_cons_succ]
              refine wpAnyH_take (i := 5) (oi := ⟨some 53, _, _, _, _, _⟩) (v := ?_) rfl (by kernel_rfl) (by decide +kernel) (by decide +kernel) (fun _ _ _ h => h) (Or.inl ⟨by rfl, ?_⟩) (by assumption) ?_
              rotate_left 1
              · (intro w' hSw; go_simp; try with_reducible rfl)
              try simp only [Act.put, List.setIfInBounds_toArray, List.set_cons_zero, List.set_cons_succ]
              refine wpAnyH_take (i := 6) (oi := ⟨some 54, _, _, _, _, _⟩) (v := ?_) rfl (by kernel_rfl) (by decide +kernel) (by decide +kernel) (fun _ _ _ h => h) (Or.inl ⟨by rfl, ?_⟩) (by assumption) ?_
              rotate_left 1
              · (intro w' hSw; go_simp; try with_reducible rfl)
              try simp only [Act.put, List.setIfInBounds_toArray, List.set_cons_zero, List.set_cons_succ]
              refine wpAnyH_take (i := 7) (oi := ⟨some 55, _, _, _, _, _⟩) (v := ?_) rfl (by kernel_rfl) (by decide +kernel) (by decide +kernel) (fun _ _ _ h => h) (Or.inl ⟨by rfl, ?_⟩) (by assumption) ?_
              rotate_left 1
              · (intro w' hSw; have hc := hSw.1; go_simp; try with_reducible rfl)
              try simp only [Act.put, List.setIfInBounds_toArray, List.set_cons_zero, List.set_cons_succ]
              refine wpAnyH_take (i := 8) (oi := ⟨some 56, _, _, _, _, _⟩) (v := ?_) rfl (by kernel_rfl) (by decide +kernel) (by decide +kernel) (fun _ _ _ h => h) (Or.inl ⟨by rfl, ?_⟩) (by assumption) ?_
              rotate_left 1
              · (intro w' hSw; go_simp; try with_reducible rfl)
              try simp only [Act.put, List.setIfInBounds_toArray, List.set_cons_zero, List.set_cons_succ]
              refine wpAnyH_take (i := 9) (oi := ⟨some 57, _, _, _, _, _⟩) (v := ?_) rfl (by kernel_rfl) (by decide +kernel) (by decide +kernel) (fun _ _ _ h => h) (Or.inl ⟨by rfl, ?_⟩) (by assumption) ?_
              rotate_left 1
              · (intro w' hSw; have hc := hSw.2.2.1; go_simp; try with_reducible rfl)
              try simp only [Act.put, List.setIfInBounds_toArray, List.set_cons_zero, List.set_cons_succ]
              refine wpAnyH_take (i := 10) (oi := ⟨some 58, _, _, _, _, _⟩) (v := ?_) rfl (by kernel_rfl) (by decide +kernel) (by decide +kernel) (fun _ _ _ h => h) (Or.inl ⟨by rfl, ?_⟩) (by assumption) ?_
              rotate_left 1
              · (intro w' hSw; go_simp; try with_reducible rfl)
              try simp only [Act.put, List.setIfInBounds_toArray, List.set_cons_zero, List.set_cons_succ]
              refine wpAnyH_take (i := 11) (oi := ⟨some 59, _, _, _, _, _⟩) (v := ?_) rfl (by kernel_rfl) (by decide +kernel) (by decide +kernel) (fun _ _ _ h => h) (Or.inl ⟨by rfl, ?_⟩) (by assumption) ?_
              rotate_left 1
              · (intro w' hSw; go_simp; try with_reducible rfl)
              try simp only [Act.put, List.setIfInBounds_toArray, List.set_cons_zero, List.set_cons_succ]
              refine wpAnyH_take (i := 12) (oi := ⟨some 60, _, _, _, _, _⟩) (v := ?_) rfl (by kernel_rfl) (by decide +kernel) (by decide +kernel) (fun _ _ _ h => h) (Or.inl ⟨by rfl, ?_⟩) (by assumption) ?_
              rotate_left 1
              · (intro w' hSw; go_simp; try with_reducible rfl)
              try simp only [Act.put, List.setIfInBounds_toArray, List.set_cons_zero, List.set_cons_succ]
              refine wpAnyH_take (i := 13) (oi := ⟨some 61, _, _, _, _, _⟩) (v := ?_) rfl (by kernel_rfl) (by decide +kernel) (by decide +kernel) (fun _ _ _ h => h) (Or.inl ⟨by rfl, ?_⟩) (by assumption) ?_
              rotate_left 1
              · (intro w' hSw; have hc := hSw.2.1; go_simp; try with_reducible rfl)
              try simp only [Act.put, List.setIfInBounds_toArray, List.set_cons_zero, List.set_cons_succ]
              refine wpAnyH_take (i := 14) (oi := ⟨some 62, _, _, _, _, _⟩) (v := ?_) rfl (by kernel_rfl) (by decide +kernel) (by decide +kernel) (fun _ _ _ h => h) (Or.inl ⟨by rfl, ?_⟩) (by assumption) ?_
              rotate_left 1
              · (intro w' hSw; go_simp; try with_reducible rfl)
              try simp only [Act.put, List.setIfInBounds_toArray, List.set_cons_zero, List.set_cons_succ]
              refine wpAnyH_take (i := 15) (oi := ⟨some 63, _, _, _, _, _⟩) (v := ?_) rfl (by kernel_rfl) (by decide +kernel) (by decide +kernel) (fun _ _ _ h => h) (Or.inl ⟨by rfl, ?_⟩) (by assumption) ?_
              rotate_left 1
              · (intro w' hSw; have hc := hSw.2.2.2.1; go_simp; try with_reducible rfl)
              try simp only [Act.put, List.setIfInBounds_toArray, List.set_cons_zero, List.set_cons_succ]
              refine wpAnyH_take (i := 16) (oi := ⟨some 64, _, _, _, _, _⟩) (v := ?_) rfl (by kernel_rfl) (by decide +kernel) (by decide +kernel) (fun _ _ _ h => h) (Or.inl ⟨by rfl, ?_⟩) (by assumption) ?_
              rotate_left 1
              · (intro w' hSw; go_simp; try with_reducible rfl)
              try simp only [Act.put, List.setIfInBounds_toArray, List.set_cons_zero, List.set_cons_succ]
              refine wpAnyH_take (i := 17) (oi := ⟨some 65, _, _, _, _, _⟩) (v := ?_) rfl (by kernel_rfl) (by decide +kernel) (by decide +kernel) (fun _ _ _ h => h) (Or.inl ⟨by rfl, ?_⟩) (by assumption) ?_
              rotate_left 1
              · (intro w' hSw; go_simp; try with_reducible rfl)
              try simp only [Act.put, List.setIfInBounds_toArray, List.set_cons_zero, List.set_cons_succ]
              refine wpAnyH_take (i := 18) (oi := ⟨some 66, _, _, _, _, _⟩) (v := ?_) rfl (by kernel_rfl) (by decide +kernel) (by decide +kernel) (fun _ _ _ h => h) (Or.inl ⟨by rfl, ?_⟩) (by assumption) ?_
              rotate_left 1
              · (intro w' hSw; go_simp; try with_reducible rfl)
              try simp only [Act.put, List.setIfInBounds_toArray, List.set_cons_zero, List.set_cons_succ]
              refine wpAnyH_take (i := 19) (oi := ⟨some 67, _, _, _, _, _⟩) (v := ?_) rfl (by kernel_rfl) (by decide +kernel) (by decide +kernel) (fun _ _ _ h => h) (Or.inl ⟨by rfl, ?_⟩) (by assumption) ?_
              rotate_left 1
              · (intro w' hSw; have hc := hSw.2.1; go_simp; try with_reducible rfl)
              try simp only [Act.put, List.setIfInBounds_toArray, List.set_cons_zero, List.set_cons_succ]
              refine wpAnyH_take (i := 20) (oi := ⟨some 68, _, _, _, _, _⟩) (v := ?_) rfl (by kernel_rfl) (by decide +kernel) (by decide +kernel) (fun _ _ _ h => h) (Or.inl ⟨by rfl, ?_⟩) (by assumption) ?_
              rotate_left 1
              · (intro w' hSw; go_simp; try with_reducible rfl)
              try simp only [Act.put, List.setIfInBounds_toArray, List.set_cons_zero, List.set_cons_succ]
              refine wpAnyH_take (i := 21) (oi := ⟨some 69, _, _, _, _, _⟩) (v := ?_) rfl (by kernel_rfl) (by decide +kernel) (by decide +kernel) (fun _ _ _ h => h) (Or.inl ⟨by rfl, ?_⟩) (by assumption) ?_
              rotate_left 1
              · (intro w' hSw; have hc := hSw.2.2.2.1; go_simp; try with_reducible rfl)
              try simp only [Act.put, List.setIfInBounds_toArray, List.set_cons_zero, List.set_cons_succ]
              refine wpAnyH_take (i := 22) (oi := ⟨some 70, _, _, _, _, _⟩) (v := ?_) rfl (by kernel_rfl) (by decide +kernel) (by decide +kernel) (fun _ _ _ h => h) (Or.inl ⟨by rfl, ?_⟩) (by assumption) ?_
              rotate_left 1
              · (intro w' hSw; go_simp; try with_reducible rfl)
              try simp only [Act.put, List.setIfInBounds_toArray, List.set_cons_zero, List.set_cons_succ]
              refine wpAnyH_take (i := 23) (oi := ⟨some 71, _, _, _, _, _⟩) (v := ?_) rfl (by kernel_rfl) (by decide +kernel) (by decide +kernel) (fun _ _ _ h => h) (Or.inl ⟨by rfl, ?_⟩) (by assumption) ?_
              rotate_left 1
              · (intro w' hSw; go_simp; try with_reducible rfl)
              try simp only [Act.put, List.setIfInBounds_toArray, List.set_cons_zero, List.set_cons_succ]
              refine wpAnyH_take (i := 24) (oi := ⟨some 72, _, _, _, _, _⟩) (v := ?_) rfl (by kernel_rfl) (by decide +kernel) (by decide +kernel) (fun _ _ _ h => h) (Or.inl ⟨by rfl, ?_⟩) (by assumption) ?_
              rotate_left 1
              · (intro w' hSw; go_simp; try with_reducible rfl)
              try simp only [Act.put, List.setIfInBounds_toArray, List.set_cons_zero, List.set_cons_succ]
              refine wpAnyH_take (i := 25) (oi := ⟨some 73, _, _, _, _, _⟩) (v := ?_) rfl (by kernel_rfl) (by decide +kernel) (by decide +kernel) (fun _ _ _ h => h) (Or.inl ⟨by rfl, ?_⟩) (by assumption) ?_
              rotate_left 1
              · (intro w' hSw; go_simp; try with_reducible rfl)
              try simp only [Act.put, List.setIfInBounds_toArray, List.set_cons_zero, List.set_cons_succ]
              refine wpAnyH_take (i := 26) (oi := ⟨some 74, _, _, _, _, _⟩) (v := ?_) rfl (by kernel_rfl) (by decide +kernel) (by decide +kernel) (fun _ _ _ h => h) (Or.inl ⟨by rfl, ?_⟩) (by assumption) ?_
              rotate_left 1
              · (intro w' hSw; have hc := conv_BS hSw.2.2.2.2.1; go_simp; try with_reducible rfl)
              try simp only [Act.put, List.setIfInBounds_toArray, List.set_cons_zero, List.set_cons_succ]
              refine wpAnyH_take (i := 27) (oi := ⟨some 75, _, _, _, _, _⟩) (v := ?_) rfl (by kernel_rfl) (by decide +kernel) (by decide +kernel) (fun _ _ _ h => h) (Or.inl ⟨by rfl, ?_⟩) (by assumption) ?_
              rotate_left 1
              · (intro w' hSw; go_simp; try with_reducible rfl)
              try simp only [Act.put, List.setIfInBounds_toArray, List.set_cons_zero, List.set_cons_succ]
              refine wpAnyH_take (i := 28) (oi := ⟨some 76, _, _, _, _, _⟩) (v := ?_) rfl (by kernel_rfl) (by decide +kernel) (by decide +kernel) (fun _ _ _ h => h) (Or.inl ⟨by rfl, ?_⟩) (by assumption) ?_
              rotate_left 1
              · (intro w' hSw; go_simp; try with_reducible rfl)
              try simp only [Act.put, List.setIfInBounds_toArray, List.set_cons_zero, List.set_cons_succ]
              refine wpAnyH_take (i := 29) (oi := ⟨some 77, _, _, _, _, _⟩) (v := ?_) rfl (by kernel_rfl) (by decide +kernel) (by decide +kernel) (fun _ _ _ h => h) (Or.inl ⟨by rfl, ?_⟩) (by assumption) ?_
              rotate_left 1
              · (intro w' hSw; have hc := conv_BS hSw.2.2.2.2.2; go_simp; try with_reducible rfl)
              try simp only [Act.put, List.setIfInBounds_toArray, List.set_cons_zero, List.set_cons_succ]
              refine wpAnyH_take (i := 30) (oi := ⟨some 78, _, _, _, _, _⟩) (v := ?_) rfl (by kernel_rfl) (by decide +kernel) (by decide +kernel) (fun _ _ _ h => h) (Or.inl ⟨by rfl, ?_⟩) (by assumption) ?_
              rotate_left 1
              · (intro w' hSw; go_simp; try with_reducible rfl)
              try simp only [Act.put, List.setIfInBounds_toArray, List.set_cons_zero, List.set_cons_succ]
              refine wpAnyH_take (i := 31) (oi := ⟨some 79, _, _, _, _, _⟩) (v := ?_) rfl (by kernel_rfl) (by decide +kernel) (by decide +kernel) (fun _ _ _ h => h) (Or.inl ⟨by rfl, ?_⟩) (by assumption) ?_
              rotate_left 1
              · (intro w' hSw; go_simp; try with_reducible rfl)
              try simp only [Act.put, List.setIfInBounds_toArray, List.set_cons_zero, List.set_cons_succ]
              refine wpAnyH_take (i := 32) (oi := ⟨some 80, _, _, _, _, _⟩) (v := ?_) rfl (by kernel_rfl) (by decide +kernel) (by decide +kernel) (fun _ _ _ h => h) (Or.inl ⟨by rfl, ?_⟩) (by assumption) ?_
              rotate_left 1
              · (intro w' hSw; go_simp; try with_reducible rfl)
              try simp only [Act.put, List.setIfInBounds_toArray, List.set_cons_zero, List.set_cons_succ]
              refine wpAnyH_take (i := 33) (oi := ⟨some 81, _, _, _, _, _⟩) (v := ?_) rfl (by kernel_rfl) (by decide +kernel) (by decide +kernel) (fun _ _ _ h => h) (Or.inl ⟨by rfl, ?_⟩) (by assumption) ?_
              rotate_left 1
              · (intro w' hSw; go_simp; try with_reducible rfl)
              try simp only [Act.put, List.setIfInBounds_toArray, List.set_cons_zero, List.set_cons_succ]
              refine wpAnyH_take (i := 34) (oi := ⟨some 82, _, _, _, _, _⟩) (v := ?_) rfl (by kernel_rfl) (by decide +kernel) (by decide +kernel) (fun _ _ _ h => h) (Or.inl ⟨by rfl, ?_⟩) (by assumption) ?_
              rotate_left 1
              · (intro w' hSw; go_simp; try with_reducible rfl)
              try simp only [Act.put, List.setIfInBounds_toArray, List.set_cons_zero, List.set_cons_succ]
              clear hHeld
              refine wpAnyH_done (by decide +kernel) ?_ _
              refine NoPanic.normal ?_
              have HC9' := Lib.hid (HC9.out.below HW9.out)
              have HO9' := Lib.hid (own_belowP HO9.out HW9.out)
              clear HC9 HO9 HW9 HSS
              go_wp2_with fail
              go_roundw
              case rel => exact ⟨k + 1, by have := HLT.out; omega, by go_num, HC9'.out, HO9'.out⟩
              case measure => simp [intOf]; have := HLT.out; omega
        · obtain rfl : k = n := by omega
          have HC := Lib.hid hC
          have LN := Lib.hid (lit_noptr wr)
          have hm1 : Below wr.heap.size wr (wr.alloc (.cells #[] 27)) := (Below.refl _ wr).alloc (Nat.le_refl _) _
          have how : (wr.alloc (.cells #[] 27)).ownsRow wr.heap.size 27 34 (.slice (some ⟨wr.heap.size, 0, none⟩) 0 0) 0 (rowsP []) :=
            World.ownsRow_lit (base := wr.heap.size) (e := 27) (size := 34) wr #[] 0 (Nat.le_refl _) (by decide) rfl
          obtain ⟨a2, c2, w23, hr23, ho23, hg23, _⟩ := append_ps _ wr.heap.size 0 _ _ [] _ how ((ps_own hO).below hm1) (by omega) (by have := HNN.out; have := HNA.out; omega) hm1.size
          have hm2 : Below wr.heap.size wr w23 := hm1.trans (below_grown8 hm1.size hg23 (Nat.le_refl _))
          rw [show 0 + A.length = k by rw [HNN.out]; omega] at hr23 ho23
          rw [List.nil_append] at ho23
          have HC23 := Lib.hid (HC.out.below hm2)
          have HXA := Lib.hid (show XA8 w23 a B6 wr.heap.size 0 A from fun g e => by
            subst e
            have ho := own_belowP hO hm2
            have h0 := (hO.lt g rfl).1
            have h1 := (hO.lt g rfl).2
            refine ⟨h0, h1, ?_⟩
            rcases ho.2 with ⟨h, _⟩ | ⟨g', cap, cur, he, _, hb, _, _, hsz, ht⟩
            · cases h
            · cases he
              refine ⟨cur, hb, fun j q _ hq => ?_⟩
              have e := rowsP_at A j q hq 0 (by decide)
              have hj : j < k := by have := (List.getElem?_eq_some_iff.1 hq).1; have := HNN.out; omega
              rw [Nat.add_zero, ← ht, List.getElem?_take_of_lt (by omega), Array.getElem?_toList] at e
              rw [e]; rfl)
          have HAP := Lib.hid hr23
          have HOB := Lib.hid ho23
          have HNZ := Lib.hid (show 0 < k → ∃ g, a = some ⟨g, 0, none⟩ by
            intro hk0
            rcases hO.2 with ⟨_, h⟩ | ⟨g, cap, cur, he, _⟩
            · omega
            · injection he with he; exact ⟨g, he⟩)
          obtain ⟨B7, HB7, HOB, HXA⟩ : ∃ B7, Hid (∀ g ∈ C :: mbl mv, g < B6) ∧ Hid (w23.ownsRow B7 27 34 (.slice a2 k c2) k (rowsP A)) ∧ Hid (XA8 w23 a B6 B7 0 A) := ⟨_, HB6, HOB, HXA⟩
          clear hk hlt hC hO hm1 hm2 how hg23 hr23 ho23 HC
          go_wp2_with (first
            | (with_reducible refine wpList_lit_run (o := ⟨some 84, _, _, _, _, _⟩) rfl 54 0 #[] rfl #[] (by simp) _ _ LN.out ?_)
            | (at_builtin; refine wpList_append_run (o := ⟨some 86, _, _, _, _, _⟩) rfl (.tmp 84) (.tmp 85) 54 54 rfl _ _ _ _ rfl rfl HAP.out ?_))
          clear LN HAP
          go_loopw [11, 89] (fun _ v89 wr => ∃ j : Nat, j ≤ k ∧ v89 = .int .i64 (j : Int) ∧ CO w wr C mv x0 i ∧ wr.ownsRow B7 27 34 (.slice a2 k c2) k (rowsP A) ∧ XA8 wr a B6 B7 j A) (fun _ v _ => k - (intOf v).toNat)
          case atStart => exact ⟨0, by omega, rfl, HC23.out, HOB.out, HXA.out⟩
          case round =>
            clear HC23 HOB HXA
            obtain ⟨j, hj, rfl, hC, hO, hX⟩ := hrel
            by_cases hlt : j < k
            · obtain ⟨g, hga⟩ := HNZ.out (by omega)
              obtain ⟨q, hq⟩ : ∃ q, A[j]? = some q := ⟨_, List.getElem?_eq_getElem (by have := HNN.out; omega)⟩
              obtain ⟨hg0, hg1, cur, hb, hcur⟩ := hX g hga
              have hcell := cell_of_row wr g (j * 34) cur _ _ hb
              rw [hcur j q (Nat.le_refl _) hq] at hcell
              have hfro := frozen_of_row wr g (j * 34) _ _ hb
              have hix : ∀ W, (Instr.indexAt 54 (.slice a k c) (.int .i64 (j : Int))).run Try.prog W = .ok (.pointer (some ⟨g, j * 34, none⟩)) W := fun W => by
                have := index_ptr g 0 k c j hlt W
                rw [hga]
                rwa [Nat.zero_add] at this
              have HST := Lib.hid (fun v => show CO w (wr.setCell ⟨g, j * 34, none⟩ v) C mv x0 i ∧ (wr.setCell ⟨g, j * 34, none⟩ v).ownsRow B7 27 34 (.slice a2 k c2) k (rowsP A) ∧ XA8 (wr.setCell ⟨g, j * 34, none⟩ v) a B6 B7 (j + 1) A by
                have ht : Touch [g] wr (wr.setCell ⟨g, j * 34, none⟩ v) := ⟨rfl, rfl, rfl, (KeepsWalks.setCell wr _ v).size, fun m hm hn => Below.heap_setCell _ _ _ m (fun e => hn (by simp [e]))⟩
                refine ⟨hC.touch ht (fun m hm hmg => ?_) (fun m hm => ?_), own_touch hO ht (fun m hm hmg => ?_), fun g' e' => ?_⟩
                · have h1 := HB7.out m hm
                  simp at hmg; omega
                · simp at hm
                  have h1 := hC.new_all C (by simp)
                  have h2 := HB7.out C (by simp)
                  omega
                · have h1 := (hO.lt m hm).1
                  simp at hmg; omega
                · rw [hga] at e'
                  cases e'
                  refine ⟨hg0, hg1, _, by rw [setCell_eq_setRow wr g (j * 34) cur _ _ v hb]; exact setRow_heap wr g cur _ _ _ hb, fun m p hm hp => ?_⟩
                  rw [Array.getElem?_setIfInBounds_ne (by omega)]
                  exact hcur m p (by omega) hp)
              have jI : (j : Int) < (k : Int) := by omega
              have j0 : (0 : Int) ≤ (j : Int) := by omega
              have HLJ := Lib.hid hlt
              clear hj hlt hC hO hX hq hga hg0 hg1 hb hcur
              go_wp2_with fail
              go_roundw
              case rel => exact ⟨j + 1, by have := HLJ.out; omega, by go_num, HST.out _⟩
              case measure => simp [intOf]; have := HLJ.out; omega
            · obtain rfl : j = k := by omega
              have HP2 := Lib.hid (pall8 w wr C i mv x0 hC (by unfold distinct; rw [HAA.out, HNN.out]; have := HNA.out; omega))
              have HPS := Lib.hid (ps_own hO)
              have HB := Lib.hid hC.bel
              clear hj hlt hC hO hX
              go_wp2_with fail
              refine HP2.out.mono ?_
              rintro e wq ⟨v2, rfl, hA2, hB2⟩
              have hps := ps_own hA2.1
              rw [HAA.out] at hps
              have HSM := Lib.hid (psame_any wq v2 (.slice a2 j c2) A A hps (HPS.out.below hB2) (by rw [HNN.out]; have := HNA.out; omega) (by rw [HNN.out]; have := HNA.out; omega))
              rw [decide_eq_true (rfl : A = A)] at HSM
              have HBQ := Lib.hid (HB.out.trans (hB2.mono HB.out.size))
              clear hps hA2 hB2 HP2 HPS
              go_wp2_with fail
              refine HSM.out.mono ?_
              rintro e wz ⟨rfl, hbz⟩
              have HBZ := Lib.hid (HBQ.out.trans (hbz.mono HBQ.out.size))
              clear hbz HSM
              go_wp2_with fail
              go_ret
              exact ⟨rfl, HBZ.out⟩
set_option maxRecDepth 100000 in
theorem lifted (os : Os) (started : os.Started) (H : Type) (enc : TypeId × Value → H) :
    ReturnsInHanded {} Try.checked os 8 .any (Rows.ptrOrdersSpec.pre6 enc Try.prog Try.f8 Rows.ptrOrdersRow.domain false) (Rows.ptrOrdersSpec.post enc Try.prog Try.f8 false true false false) := by
  refine returnsInHanded_of_change_sized (C := Try.checked) own started (by kernel_rfl) Try.func8
    (ChangeSpec.witness6 (enc := enc) (C := Try.checked) false ⟨#[], #[.slice none 0 0], []⟩ 8 (by kernel_rfl) (by kernel_rfl) (by kernel_rfl) (by kernel_rfl)) ?_
  intro W base args ds gs before hval0 hW hcnd hsz0 _
  have hsz : (DataW.weightsEach Try.prog (Try.f8.params.toList ++ Rows.ptrOrdersSpec.plain.varTypes Try.prog) (ds ++ gs)).all (· ≤ reachBytes) = true := hsz0
  clear hsz0
  have hval : ∀ (j : Nat) t v, Try.f8.params[j]? = some t → args[j]? = some v → Value.okWide Try.prog W .any base t v := hval0
  have hW' := hW
  obtain ⟨p, q, hA0, hV, rfl, hfz, hnd⟩ := hW
  have hA : DataW.TrodAll enc Try.prog W 0 (fun _ => true) true Try.f8.params.toList args.toList ds p := hA0
  rw [Try.params8] at hA hval hsz
  obtain ⟨v0, vs0, d0, ds0, p0, q0, hargs, rfl, rfl, h0, r0⟩ := trodAll_cons hA
  obtain ⟨rfl, rfl, rfl⟩ := trodAll_nil r0
  obtain rfl : args = #[v0] := by cases args; simp_all
  obtain ⟨rfl, rfl⟩ := trodVars_none hV
  have k0 := h0
  have lt0 : ∀ x ∈ p0, x.block < W.heap.size := by obtain ⟨m, hm⟩ := k0; exact DataW.trod_lt m _ _ _ hm
  obtain ⟨x0, a0, len0, cap0, rfl, sl0⟩ := par_slice (j := 0) Try.underlying54 opn_ptrs (hval 0 54 v0 rfl rfl) h0 hsz rfl rfl
  clear hA0 hval0
  simp only [List.append_nil] at hW'
  refine (walk W a0 len0 cap0 x0 sl0).mono fun e W' ⟨he, bel⟩ => ?_
  subst he
  exact ⟨_, rfl, _, _, _, [], _, [], hW', trodAll_mk1 (shut_bool Try.underlying4 _), (trodAll_cons_mk (Below.trod laidOut (by kernel_rfl) (of_decide_eq_true (by kernel_rfl)) k0 bel lt0) trodAll_mk0), rfl, bel.frame _, fun h => by cases h⟩

theorem over : Rows.ptrOrdersRow.holds Try.pinned (OpenSpec.ofChange Rows.ptrOrdersSpec) :=
  OpenClaim.holds_of_wide 8 Try.f8 rfl rfl rfl rfl rfl rfl rfl ⟨rfl, rfl, rfl, rfl, rfl⟩ rfl rfl rfl rfl rfl (by kernel_rfl) Try.func8 (by kernel_rfl)
    (of_decide_eq_true (by kernel_rfl)) (by unfold Func.isWrapper; first | (rw [if_pos (by decide +kernel)]; kernel_rfl) | (rw [if_neg (by decide +kernel)]; exact ⟨rfl, rfl⟩))
    (fun os started H enc _ => lifted os started H enc)

/-- The statement. -/
theorem proved : Rows.PtrOrdersSaid := over
#print axioms proved
end Go.Proofs.Ytbnclmlbennhaaa.ptrOrders
