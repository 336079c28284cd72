/-
  The reference of layer 6: Flush.
-/
import Derived.Test.YtmfpdbmohebodaaDTouch
import Derived.StillTailTactics
namespace Go.Proofs.Ytmfpdbmohebodaa
open Go.RowKit

/-- What waits lies apart from the device, and from what is laid. -/
theorem RD.apart {w : World} {D gl n : Nat} {vw : Value} {F : List (BitVec 8)} {ws : List (Nat × List (BitVec 8))} {lim : Int} {dn : Bool} (h : RD w D gl n vw F ws lim dn) : ∀ g, vw.ownBlock = some g → g ∉ [D, gl] := by
  intro g hg hm
  have h1 := own_type h.wai h.dev (by decide)
  have h2 := own_type h.wai h.lay (by decide)
  simp only [List.mem_cons, List.not_mem_nil, or_false] at hm
  rcases hm with rfl | rfl
  · exact h1 hg
  · exact h2 hg
def wrow (p : Nat × List (BitVec 8)) : Array Value := (wcell p).toArray
theorem size_wrow (p : Nat × List (BitVec 8)) (h : p.2.length = 512) : (Try.prog.info? 73).map (·.size) = some (wrow p).size := by
  rw [show (Try.prog.info? 73).map (·.size) = some 513 by kernel_rfl, wrow, List.size_toArray, wcell_length p h]
theorem wrow_one (p : Nat × List (BitVec 8)) : (wrow p).all (·.oneCell') = true := by
  apply all_oneCell_toArray
  intro v hv
  simp only [wcell, List.mem_cons, List.mem_map] at hv
  rcases hv with rfl | ⟨b, _, rfl⟩ <;> rfl
theorem wrow_addr {w : World} {g t : Nat} {p : Nat × List (BitVec 8)} (h : w.heap[g]? = some (.cells (wrow p) t (0, 0))) : w.cell? ⟨g, 0, none⟩ = some (.int .u32 (p.1 : Int)) := by
  rw [cell_of_row _ _ _ _ _ _ h]; rfl
theorem wrow_bytes {w : World} {g t : Nat} {p : Nat × List (BitVec 8)} (h : w.heap[g]? = some (.cells (wrow p) t (0, 0))) : w.rangeAt g 1 (yvs p.2).toList := by
  intro j v hv
  rw [cell_of_row _ _ _ _ _ _ h]
  unfold wrow
  rw [List.getElem?_toArray, Nat.add_comm]
  show (p.2.map _)[j]? = _
  simpa [yvs] using hv
theorem zero_write (W : World) : (zeroValue 73).run Try.prog W = .ok (.agg (wrow (0, zeroY 512))) W := by kernel_rfl
theorem index_wait (g len cap i : Nat) (h : i < len) (W : World) : (Instr.indexAt 46 (.slice (some ⟨g, 0, none⟩) len cap) (.int .i64 (i : Int))).run Try.prog W = .ok (.pointer (some ⟨g, i * 513, none⟩)) W := by
  obtain ⟨i0, hi, hs⟩ := Option.map_eq_some_iff.1 (show (Try.prog.info? 73).map (·.size) = some 513 by kernel_rfl)
  simp [Instr.indexAt, asIntOf, run_underlying Try.underlying46, sizeOf, typeInfo, hi, hs, h, Addr.add_mid]
theorem size_s512 (l : List (BitVec 8)) (h : l.length = 512) : (Try.prog.info? 49).map (·.size) = some (yvs l).size := by rw [show (Try.prog.info? 49).map (·.size) = some 512 by kernel_rfl, yvs_size, h]

set_option maxRecDepth 100000 in
set_option maxHeartbeats 1600000 in
theorem rflush_ok (D gl n : Nat) (vw : Value) (F : List (BitVec 8)) (ws : List (Nat × List (BitVec 8))) (lim : Int) (w : World) (h : RD w D gl n vw F ws lim false) (hlim : lim ≠ 0) (hws : ws.length ≤ 1000000) :
    Calls Try.prog 16 #[.pointer (some ⟨D, 0, none⟩)] w fun e w' => e = .returned (.int .i64 0) ∧ RD w' D gl n (.slice none 0 0) (flushM F ws) [] (goM lim false).1 false ∧ Touch [D, gl] w w' := by
  obtain ⟨_, _, _, c3⟩ := rd_at h.dev
  have hgo := rgoes_any D gl n vw lim false w h.dev h.lim1
  have hg2 : (goM lim false).2 = false := by unfold goM; simp [hlim]
  have hg1 : (goM lim false).1 ≤ 9223372036854775807 := by have := h.lim1; unfold goM; dsimp only; split <;> omega
  rw [hg2] at hgo
  generalize (goM lim false).1 = lim' at *
  have HG := Lib.hid hgo
  have H := Lib.hid h
  have HL1 := Lib.hid hg1
  have HWS := Lib.hid hws
  have wI : (ws.length : Int) ≤ 1000000 := by omega
  clear hgo hg1 hg2 hlim h hws
  go_enter Try.func16, Try.ntmps16
  go_wp2_with fail
  refine HG.out.mono ?_
  rintro e w1 ⟨rfl, hD1, hO1⟩
  have H1 := Lib.hid (H.out.redev hO1 hD1 HL1.out)
  have HT1 := Lib.hid (show Touch [D, gl] w w1 from Touch.of_only hO1 (by simp))
  obtain ⟨d0, d1, _, _⟩ := rd_at H1.out.dev
  have HD1 := Lib.hid d0
  clear hD1 hO1 c3 HG d0
  have hform : ∃ a cap, vw = .slice a ws.length cap ∧ (0 < ws.length → ∃ g, a = some ⟨g, 0, none⟩) := by
    rcases H1.out.wai.2 with ⟨hv, h0⟩ | ⟨g, cap, cur, hv, _⟩
    · exact ⟨none, 0, by rw [hv, h0], fun h => by omega⟩
    · exact ⟨_, cap, hv, fun _ => ⟨g, rfl⟩⟩
  obtain ⟨aw, capw, rfl, hag⟩ := hform
  have HAG := Lib.hid hag
  clear hag
  go_wp2_with fail
  clear d1
  generalize hN : ws.length = N at *
  have HN := Lib.hid hN
  clear hN
  go_loopw [19] (fun v19 wr => ∃ i : Nat, i ≤ N ∧ v19 = .int .i64 (i : Nat) ∧ RD wr D gl n (.slice aw N capw) (flushM F (ws.take i)) ws lim' false ∧ Touch [D, gl] w1 wr) (fun v _ => N - (intOf v).toNat)
  case atStart => exact ⟨0, by omega, rfl, H1.out, Touch.refl _ _⟩
  case round =>
    obtain ⟨i, hi, rfl, hR, hT⟩ := hrel
    by_cases hlt : i < N
    · obtain ⟨g, rfl⟩ := HAG.out (by omega)
      have hil : i < ws.length := by have := HN.out; omega
      have hpw := hR.wok _ (List.getElem_mem hil)
      have hnx := flushM_next F ws i hil
      have hrg := own_range (by have q := hR.wai; rw [HN.out] at q ⊢; exact q) (fun p hp => (hR.wok p hp).1) i hil
      generalize hp : ws[i] = p at *
      have hix := index_wait g N capw i hlt
      have SWC := Lib.hid (show (Try.prog.info? 73).map (·.size) = some (wcell p).length by have q := size_wrow p hpw.1; rwa [wrow, List.size_toArray] at q)
      have SWR := Lib.hid (show (Try.prog.info? 73).map (·.size) = some (wcell p).toArray.size from size_wrow p hpw.1)
      have WO := Lib.hid (show (wcell p).toArray.all (·.oneCell') = true from wrow_one p)
      have EW := Lib.hid (show (wrow (0, zeroY 512)).size = (wcell p).toArray.size by rw [wrow, List.size_toArray, List.size_toArray, wcell_length p hpw.1, wcell_length _ (by simp [zeroY])])
      have hz := zero_write
      generalize wrow (0, zeroY 512) = ZW at *
      have HRG := Lib.hid hrg
      have HP := Lib.hid hpw
      have HNX := Lib.hid hnx
      have HR := Lib.hid hR
      have HT := Lib.hid hT
      have HLT := Lib.hid hlt
      have iI : (i : Int) < (N : Int) := by omega
      have i0 : (0 : Int) ≤ (i : Int) := by omega
      clear hR hT hi hlt hil hpw hnx hrg hp
      go_upto_region 6 with (first
        | (with_reducible refine wpList_load_mid (op := ⟨some 22, _, _, _, _, _⟩) rfl 73 _ rfl g (i * 513) rfl (wcell p) _ HRG.out Try.underlying73 rfl SWC.out ?_)
        | (with_reducible refine wpList_store_row (o := ⟨none, .store _ (.tmp 4) _, _, _, _, _⟩) rfl 73 _ _ rfl wr.heap.size (wcell p).toArray rfl rfl 73 ZW (heap_alloc_new wr _) SWR.out EW.out WO.out ?_))
      clear hix
      generalize hW7 : World.setRow _ wr.heap.size _ = W7
      have h7 : W7.heap[wr.heap.size]? = some (.cells (wcell p).toArray 73 (0, 0)) ∧ Below wr.heap.size wr W7 := by
        obtain ⟨e1, e2, e3⟩ := ygen_row (w := wr) (old := ZW) (cs := (wcell p).toArray) (T := 73)
        rw [← hW7]
        exact ⟨e1, e3⟩
      have H7 := Lib.hid h7
      have HR7 := Lib.hid (HR.out.below h7.2)
      have HT7 := Lib.hid (show Touch [D, gl] w1 W7 from HT.out.trans (Touch.of_below h7.2))
      have HXX := Lib.hid (show D < wr.heap.size ∧ gl < wr.heap.size from ⟨rd_lt HR.out.dev, zlt HR.out.lay⟩)
      clear hW7 h7 HR HT HRG hz
      generalize wr.heap.size = X at *
      have HS6 := Lib.hid (show ∀ W, Below W7.heap.size W7 W → W.cell? ⟨D, 0, none⟩ = some (.slice (some ⟨gl, 0, none⟩) n n) ∧ W.cell? ⟨X, 0, none⟩ = some (.int .u32 (p.1 : Int)) ∧ W.rangeAt X 1 (yvs p.2).toList from fun W hW => by
        have hx := (hW.block X (rd_lt H7.out.1)).trans H7.out.1
        exact ⟨(rd_at (HR7.out.below hW).dev).1, wrow_addr hx, wrow_bytes hx⟩)
      have IP := Lib.hid (show (Try.prog.info? 49).map (·.size) = some (yvs p.2).toList.length by rw [Array.length_toList]; exact size_s512 _ HP.out.1)
      have SP := Lib.hid (size_s512 _ HP.out.1)
      have hfl : p.1 * 512 + 512 ≤ (flushM F (ws.take i)).length := by rw [HR7.out.len]; have := HP.out.2; omega
      have HTH := Lib.hid (show W7.drew.there gl (p.1 * 512) (yvs p.2).size by rw [yvs_size, HP.out.1]; exact (show ArrY W7.drew gl 49 _ from HR7.out.lay).there _ _ hfl)
      have HO8 := Lib.hid (only_setCells (yvs p.2).toList (p.1 * 512) W7.drew W7.drew (Only.refl gl _))
      have HA8 := Lib.hid (ArrY.put 49 gl p.2 (p.1 * 512) _ W7.drew HR7.out.lay (by rw [HP.out.1]; exact hfl))
      have HR8 := Lib.hid ((HR7.out.below (Below.refl _ _).drew).relay HO8.out HA8.out (by rw [putL_length _ _ _ (by rw [HP.out.1]; exact hfl)]; exact HR7.out.len))
      have HS7 := Lib.hid (show (W7.drew.setCells gl (p.1 * 512) (yvs p.2).toList).cell? ⟨D, 0, none⟩ = some (.slice (some ⟨gl, 0, none⟩) n n) ∧ (W7.drew.setCells gl (p.1 * 512) (yvs p.2).toList).cell? ⟨X, 0, none⟩ = some (.int .u32 (p.1 : Int)) ∧ (W7.drew.setCells gl (p.1 * 512) (yvs p.2).toList).rangeAt X 1 (yvs p.2).toList from by
        have hx := (HO8.out.rest X (by have := HXX.out.2; omega)).trans (show W7.drew.heap[X]? = _ from H7.out.1)
        exact ⟨(rd_at HR8.out.dev).1, wrow_addr hx, wrow_bytes hx⟩)
      have HTT := Lib.hid (show Touch [D, gl] w1 (W7.drew.setCells gl (p.1 * 512) (yvs p.2).toList) from HT7.out.trans ((Touch.of_below (Below.refl _ _).drew).trans (Touch.of_only HO8.out (by simp))))
      clear hfl
      try simp only [Act.put]
      refine wp_region_noPanic ?_
      refine wp_region_held_drew (S := fun W => W.cell? ⟨D, 0, none⟩ = some (.slice (some ⟨gl, 0, none⟩) n n) ∧ W.cell? ⟨X, 0, none⟩ = some (.int .u32 (p.1 : Int)) ∧ W.rangeAt X 1 (yvs p.2).toList) (by kernel_rfl) (HS6.out _ (Below.refl _ W7).drew) (fun hHeld => ?_)
      refine wpAnyH_take (i := 0) (oi := ⟨some 23, _, _, _, _, _⟩) (v := ?_) rfl (by kernel_rfl) (by decide +kernel) (by decide +kernel) (fun _ _ _ h => h) (Or.inl ⟨by rfl, ?_⟩) (by assumption) ?_
      rotate_left 1
      · (intro w' hSw; go_simp; try with_reducible rfl)
      try simp only [Act.put, List.setIfInBounds_toArray, List.set_cons_zero, List.set_cons_succ]
      refine wpAnyH_take (i := 1) (oi := ⟨some 24, _, _, _, _, _⟩) (v := ?_) rfl (by kernel_rfl) (by decide +kernel) (by decide +kernel) (fun _ _ _ h => h) (Or.inl ⟨by rfl, ?_⟩) (by assumption) ?_
      rotate_left 1
      · (intro w' hSw; go_simp; try with_reducible rfl)
      try simp only [Act.put, List.setIfInBounds_toArray, List.set_cons_zero, List.set_cons_succ]
      refine wpAnyH_take (i := 2) (oi := ⟨some 25, _, _, _, _, _⟩) (v := ?_) rfl (by kernel_rfl) (by decide +kernel) (by decide +kernel) (fun _ _ _ h => h) (Or.inl ⟨by rfl, ?_⟩) (by assumption) ?_
      rotate_left 1
      · (intro w' hSw; go_simp; try with_reducible rfl)
      try simp only [Act.put, List.setIfInBounds_toArray, List.set_cons_zero, List.set_cons_succ]
      refine wpAnyH_take (i := 3) (oi := ⟨some 26, _, _, _, _, _⟩) (v := ?_) rfl (by kernel_rfl) (by decide +kernel) (by decide +kernel) (fun _ _ _ h => h) (Or.inl ⟨by rfl, ?_⟩) (by assumption) ?_
      rotate_left 1
      · (intro w' hSw; have hcell := hSw.1; clear hSw; go_simp; try with_reducible rfl)
      try simp only [Act.put, List.setIfInBounds_toArray, List.set_cons_zero, List.set_cons_succ]
      refine wpAnyH_take (i := 4) (oi := ⟨some 27, _, _, _, _, _⟩) (v := ?_) rfl (by kernel_rfl) (by decide +kernel) (by decide +kernel) (fun _ _ _ h => h) (Or.inl ⟨by rfl, ?_⟩) (by assumption) ?_
      rotate_left 1
      · (intro w' hSw; go_simp; try with_reducible rfl)
      try simp only [Act.put, List.setIfInBounds_toArray, List.set_cons_zero, List.set_cons_succ]
      refine wpAnyH_take (i := 5) (oi := ⟨some 28, _, _, _, _, _⟩) (v := ?_) rfl (by kernel_rfl) (by decide +kernel) (by decide +kernel) (fun _ _ _ h => h) (Or.inl ⟨by rfl, ?_⟩) (by assumption) ?_
      rotate_left 1
      · (intro w' hSw; have hcell := hSw.2.1; clear hSw; go_simp; try with_reducible rfl)
      try simp only [Act.put, List.setIfInBounds_toArray, List.set_cons_zero, List.set_cons_succ]
      refine wpAnyH_take (i := 6) (oi := ⟨some 29, _, _, _, _, _⟩) (v := ?_) rfl (by kernel_rfl) (by decide +kernel) (by decide +kernel) (fun _ _ _ h => h) (Or.inl ⟨by rfl, ?_⟩) (by assumption) ?_
      rotate_left 1
      · (intro w' hSw; go_simp; try with_reducible rfl)
      try simp only [Act.put, List.setIfInBounds_toArray, List.set_cons_zero, List.set_cons_succ]
      refine wpAnyH_take (i := 7) (oi := ⟨some 30, _, _, _, _, _⟩) rfl (by kernel_rfl) (by decide +kernel) (by decide +kernel) (fun _ _ _ h => h) (yieldsIf_load_mid (by rfl) _ _ rfl (X) (1) rfl (yvs p.2).toList _ (fun w' h => h.2.2) Try.underlying49 rfl IP.out) (by assumption) ?_
      try simp only [Act.put, List.setIfInBounds_toArray, List.set_cons_zero, List.set_cons_succ, Array.toArray_toList]
      have hix := index_sec gl n p.1 HP.out.2
      refine wpAnyH_take (i := 8) (oi := ⟨some 31, _, _, _, _, _⟩) (v := ?_) rfl (by kernel_rfl) (by decide +kernel) (by decide +kernel) (fun _ _ _ h => h) (Or.inl ⟨by rfl, ?_⟩) (by assumption) ?_
      rotate_left 1
      · (intro w' hSw; go_simp; try with_reducible rfl)
      try simp only [Act.put, List.setIfInBounds_toArray, List.set_cons_zero, List.set_cons_succ]
      clear hix hHeld
      refine wpAnyH_ready (rs := [9]) (by decide +kernel) (by simp) ?_
      refine AllReadyH.cons rfl (fun K hK => ?_) AllReadyH.nil
      rw [if_pos (by kernel_rfl)]
      refine wp_store_mid (op := ⟨none, .store _ (.tmp 31) _, _, _, _, _⟩) 49 _ _ rfl gl (p.1 * 512) (yvs p.2) rfl rfl HTH.out SP.out (yvs_one _) ?_
      refine hK.out _ _ (HS7.out) (fun hHeld => ?_)
      clear hK K hHeld
      try simp only [Act.put]
      refine wpAnyH_done (by decide +kernel) ?_ _
      refine NoPanic.normal ?_
      go_wp2_with fail
      go_roundw
      case rel => exact ⟨i + 1, by have := HLT.out; omega, by go_num, by rw [HNX.out]; exact HR8.out, HTT.out⟩
      case measure => simp [intOf]; omega
    · have hbv : decide (i < N) = false := by simp; omega
      have hfull : ws.take i = ws := List.take_of_length_le (by have := HN.out; omega)
      rw [hfull] at hR
      obtain ⟨_, d1, _, _⟩ := rd_at hR.dev
      have f1 := rd_free hR.dev 1
      have HDD := Lib.hid (heap_setCell_same wr D 1 _ _ (.slice none 0 0) hR.dev)
      have HO := Lib.hid (show Only D wr (wr.setCell ⟨D, 1, none⟩ (.slice none 0 0)) from (Only.refl _ _).setCell _ _)
      have HR := Lib.hid hR
      have HEND := Lib.hid (show Touch [D, gl] w (wr.setCell ⟨D, 1, none⟩ (.slice none 0 0)) from HT1.out.trans (hT.trans (Touch.of_only HO.out (by simp))))
      clear hR hT hi hlt hfull
      go_wp2_with fail
      go_ret
      exact ⟨rfl, ⟨HDD.out, HO.out.arr HR.out.lay (type_ne HR.out.lay HR.out.dev (by decide)), HR.out.len, World.ownsRow_nil _ _ _ _, (fun p hp => by cases hp), HR.out.big, HR.out.lim1⟩, HEND.out⟩
end Go.Proofs.Ytmfpdbmohebodaa
