/-
  The reference of layer 6: Crash.
-/
import Derived.Test.YtmfpdbmohebodaaDFlush
namespace Go.Proofs.Ytmfpdbmohebodaa
open Go.RowKit

/-- What a crash makes of one write that waits, and of the first i of them. -/
def stepC (keep : Nat) (torn : Int) (F : List (BitVec 8)) (p : Nat × List (BitVec 8)) (i : Nat) : List (BitVec 8) :=
  if (i : Int) = torn then putL F (p.1 * 512) (p.2.take 256) else if keep / 2 ^ (i % 64) % 2 = 1 then putL F (p.1 * 512) p.2 else F
def crashM (keep : Nat) (torn : Int) (F : List (BitVec 8)) (ws : List (Nat × List (BitVec 8))) : Nat → List (BitVec 8)
  | 0 => F
  | i + 1 => stepC keep torn (crashM keep torn F ws i) (ws.getD i (0, [])) i
theorem slice_half (g o : Nat) (W : World) : (Instr.sliceAt 49 (.pointer (some ⟨g, o, none⟩)) none (some (.int .i64 256)) none).run Try.prog W = .ok (.slice (some ⟨g, o, none⟩) 256 512) W := by
  obtain ⟨i0, hi0, _⟩ := Option.map_eq_some_iff.1 yone
  have b : (Instr.sliceBound (.int .i64 256) 512 .sliceAlen).run Try.prog W = .ok 256 W := ybound_ok 256 512 .sliceAlen (by omega) W
  simp [Instr.sliceAt, run_underlying Try.underlying49, Instr.sureAddr, Instr.sliceBounds, sizeOf, typeInfo, hi0, Addr.add_mid, b]

set_option maxRecDepth 100000 in
set_option maxHeartbeats 3200000 in
theorem rcrash_any (D gl n keep : Nat) (torn : Int) (vw : Value) (F : List (BitVec 8)) (ws : List (Nat × List (BitVec 8))) (lim : Int) (dn : Bool) (w : World) (h : RD w D gl n vw F ws lim dn) (hws : ws.length ≤ 1000000) (hk : keep < 18446744073709551616) :
    Calls Try.prog 20 #[.pointer (some ⟨D, 0, none⟩), .int .u64 (keep : Int), .int .i64 torn] w fun e w' => e = .returned (.tuple #[]) ∧ RD w' D gl n (.slice none 0 0) (crashM keep torn F ws ws.length) [] (-1) false ∧ Touch [D, gl] w w' := by
  have hform : ∃ a cap, vw = .slice a ws.length cap ∧ (0 < ws.length → ∃ g, a = some ⟨g, 0, none⟩) := by
    rcases h.wai.2 with ⟨hv, h0⟩ | ⟨g, cap, cur, hv, _⟩
    · exact ⟨none, 0, by rw [hv, h0], fun h => by omega⟩
    · exact ⟨_, cap, hv, fun _ => ⟨g, rfl⟩⟩
  obtain ⟨aw, capw, rfl, hag⟩ := hform
  obtain ⟨_, d1, _, _⟩ := rd_at h.dev
  have HAG := Lib.hid hag
  have H1 := Lib.hid h
  have wI : (ws.length : Int) ≤ 1000000 := by omega
  have HK := Lib.hid hk
  clear h hws hag hk
  go_enter Try.func20, Try.ntmps20
  generalize hN : ws.length = N at *
  have HN := Lib.hid hN
  clear hN
  go_wp2_with fail
  clear d1
  go_loopw [15] (fun v15 wr => ∃ i : Nat, i ≤ N ∧ v15 = .int .i64 (i : Nat) ∧ RD wr D gl n (.slice aw N capw) (crashM keep torn F ws i) ws lim dn ∧ Touch [D, gl] w wr) (fun v _ => N - (intOf v).toNat)
  case atStart => exact ⟨0, by omega, rfl, H1.out, Touch.refl _ _⟩
  case round =>
    obtain ⟨i, hi, rfl, hR, hT⟩ := hrel
    by_cases hlt : i < N
    · obtain ⟨g, rfl⟩ := HAG.out (by omega)
      have hil : i < ws.length := by have := HN.out; omega
      have hpw := hR.wok _ (List.getElem_mem hil)
      have hnx : crashM keep torn F ws (i + 1) = stepC keep torn (crashM keep torn F ws i) ws[i] i := by rw [crashM]; simp [List.getD, hil]
      have hrg := own_range (by have q := hR.wai; rw [HN.out] at q ⊢; exact q) (fun p hp => (hR.wok p hp).1) i hil
      generalize hp : ws[i] = p at *
      obtain ⟨FI, hFI⟩ : ∃ y, crashM keep torn F ws i = y := ⟨_, rfl⟩
      rw [hFI] at hnx hR
      have hix := index_wait g N capw i hlt
      have SWC := Lib.hid (show (Try.prog.info? 73).map (·.size) = some (wcell p).length by have q := size_wrow p hpw.1; rwa [wrow, List.size_toArray] at q)
      have SWR := Lib.hid (show (Try.prog.info? 73).map (·.size) = some (wcell p).toArray.size from size_wrow p hpw.1)
      have WO := Lib.hid (show (wcell p).toArray.all (·.oneCell') = true from wrow_one p)
      have EW := Lib.hid (show (wrow (0, zeroY 512)).size = (wcell p).toArray.size by rw [wrow, List.size_toArray, List.size_toArray, wcell_length p hpw.1, wcell_length _ (by simp [zeroY])])
      have hz := zero_write
      generalize wrow (0, zeroY 512) = ZW at *
      have HRG := Lib.hid hrg
      have HP := Lib.hid hpw
      have HNX := Lib.hid hnx
      have HR := Lib.hid hR
      have HT := Lib.hid hT
      have HLT := Lib.hid hlt
      have iI : (i : Int) < (N : Int) := by omega
      have i0 : (0 : Int) ≤ (i : Int) := by omega
      clear hR hT hi hlt hil hpw hnx hrg hp hFI
      go_upto_region 3 with (first
        | (with_reducible refine wpList_load_mid (op := ⟨some 19, _, _, _, _, _⟩) rfl 73 _ rfl g (i * 513) rfl (wcell p) _ HRG.out Try.underlying73 rfl SWC.out ?_)
        | (with_reducible refine wpList_store_row (o := ⟨none, .store _ (.tmp 7) _, _, _, _, _⟩) rfl 73 _ _ rfl wr.heap.size (wcell p).toArray rfl rfl 73 ZW (heap_alloc_new wr _) SWR.out EW.out WO.out ?_))
      clear hix
      generalize hW7 : World.setRow _ wr.heap.size _ = W7
      have h7 : W7.heap[wr.heap.size]? = some (.cells (wcell p).toArray 73 (0, 0)) ∧ Below wr.heap.size wr W7 := by
        obtain ⟨e1, e2, e3⟩ := ygen_row (w := wr) (old := ZW) (cs := (wcell p).toArray) (T := 73)
        rw [← hW7]
        exact ⟨e1, e3⟩
      have H7 := Lib.hid h7
      have HR7 := Lib.hid (HR.out.below h7.2)
      have HT7 := Lib.hid (show Touch [D, gl] w W7 from HT.out.trans (Touch.of_below h7.2))
      have HXX := Lib.hid (show D < wr.heap.size ∧ gl < wr.heap.size from ⟨rd_lt HR.out.dev, zlt HR.out.lay⟩)
      clear hW7 h7 HR HT HRG hz
      generalize wr.heap.size = X at *
      have HS6 := Lib.hid (show ∀ W, Below W7.heap.size W7 W → W.cell? ⟨D, 0, none⟩ = some (.slice (some ⟨gl, 0, none⟩) n n) ∧ W.cell? ⟨X, 0, none⟩ = some (.int .u32 (p.1 : Int)) ∧ W.rangeAt X 1 (yvs p.2).toList from fun W hW => by
        have hx := (hW.block X (rd_lt H7.out.1)).trans H7.out.1
        exact ⟨(rd_at (HR7.out.below hW).dev).1, wrow_addr hx, wrow_bytes hx⟩)
      obtain ⟨m, hm, hm2⟩ : ∃ m : Nat, (i : Int) % 64 = (m : Int) ∧ i % 64 = m := ⟨i % 64, by omega, rfl⟩
      have HM := Lib.hid hm2
      clear hm2
      go_wp2_with fail
      go_loopw [8, 9] (fun v8 v9 wx => ∃ k : Nat, k ≤ m ∧ v9 = .int .i64 (k : Nat) ∧ v8 = .int .u64 ((keep / 2 ^ k : Nat) : Int) ∧ W7 = wx) (fun _ v _ => m - (intOf v).toNat)
      case atStart => exact ⟨0, by omega, rfl, by simp, rfl⟩
      case round =>
        obtain ⟨k, hk, rfl, rfl, rfl⟩ := hrel
        by_cases hkm : k < m
        · have HKM := Lib.hid hkm
          have HNK := Lib.hid (show ((keep / 2 ^ k : Nat) : Int) / 2 = ((keep / 2 ^ (k + 1) : Nat) : Int) by rw [Nat.pow_succ, ← Nat.div_div_eq_div_mul]; omega)
          have hkb : ((keep / 2 ^ k : Nat) : Int) < 18446744073709551616 := by have := Nat.div_le_self keep (2 ^ k); have := HK.out; omega
          generalize keep / 2 ^ k = b at *
          have b0 : (0 : Int) ≤ (b : Int) := by omega
          have kI : (k : Int) < (m : Int) := by omega
          have k64 : (k : Int) < 64 := by have := HM.out; omega
          clear hk hkm
          go_wp2_with fail
          go_roundw
          case rel => exact ⟨k + 1, by have := HKM.out; omega, by go_num, by rw [← HNK.out], trivial⟩
          case measure => simp [intOf]; omega
        · have HKE := Lib.hid (show m = k by omega)
          have hkv : decide (k < m) = false := by simp; omega
          have hkb : ((keep / 2 ^ k : Nat) : Int) < 18446744073709551616 := by have := Nat.div_le_self keep (2 ^ k); have := HK.out; omega
          have HNX2 := Lib.hid (show crashM keep torn F ws (i + 1) = if (i : Int) = torn then putL FI (p.1 * 512) (p.2.take 256) else if keep / 2 ^ k % 2 = 1 then putL FI (p.1 * 512) p.2 else FI by rw [HNX.out, stepC, HM.out, HKE.out])
          generalize keep / 2 ^ k = b at *
          have b0 : (0 : Int) ≤ (b : Int) := by omega
          have hfl : p.1 * 512 + 512 ≤ FI.length := by rw [HR7.out.len]; have := HP.out.2; omega
          have HFL := Lib.hid hfl
          have HKB := Lib.hid hkb
          clear hkb hk hkm HNX hfl
          by_cases ht : (i : Int) = torn
          · have htb : ((i : Int) == torn) = true := by simp [ht]
            have HN2 := Lib.hid (show crashM keep torn F ws (i + 1) = putL FI (p.1 * 512) (p.2.take 256) by rw [HNX2.out, if_pos ht])
            obtain ⟨PH, hPH⟩ : ∃ y, p.2.take 256 = y := ⟨_, rfl⟩
            have hpl : PH.length = 256 := by rw [← hPH, List.length_take, HP.out.1]; omega
            rw [hPH] at HN2
            have HAC := Lib.hid (show W7.drew.heap[gl]? = some (.cells (yvs FI).toList.toArray 49 (0, 0)) from HR7.out.lay)
            have HSRC := Lib.hid (show ∀ j v, (yvs PH).toList[j]? = some v → W7.drew.cell? ((⟨X, 1, none⟩ : Addr).add j) = some v from fun j v hv => by
              rw [Addr.add_mid]
              have hj : j < 256 := by
                have := (List.getElem?_eq_some_iff.1 hv).1
                rwa [Array.length_toList, yvs_size, hpl] at this
              refine (HS6.out _ (Below.refl _ W7).drew).2.2 j v ?_
              rw [← hv, ← hPH]
              simp [yvs, hj])
            have HCP := Lib.hid (show (yvs PH).toList.length = Nat.min 256 256 ∧ p.1 * 512 + (yvs PH).toList.length ≤ (yvs FI).toList.length ∧ ∀ v ∈ (yvs PH).toList, v.oneCell' = true from
              ⟨by rw [Array.length_toList, yvs_size, hpl]; rfl, by rw [Array.length_toList, Array.length_toList, yvs_size, yvs_size, hpl]; have := HFL.out; omega, fun v hv => Array.all_eq_true_iff_forall_mem.1 (yvs_one PH) v (by simpa using hv)⟩)
            have HO8 := Lib.hid (only_setRow W7.drew gl (yvs (putL FI (p.1 * 512) PH)))
            have HR8 := Lib.hid ((HR7.out.below (Below.refl _ _).drew).relay HO8.out (setRow_heap W7.drew gl _ _ _ (0, 0) HR7.out.lay) (by rw [putL_length _ _ _ (by rw [hpl]; have := HFL.out; omega)]; exact HR7.out.len))
            have HS8 := Lib.hid (show (W7.drew.setRow gl (yvs (putL FI (p.1 * 512) PH))).cell? ⟨D, 0, none⟩ = some (.slice (some ⟨gl, 0, none⟩) n n) ∧ (W7.drew.setRow gl (yvs (putL FI (p.1 * 512) PH))).cell? ⟨X, 0, none⟩ = some (.int .u32 (p.1 : Int)) ∧ (W7.drew.setRow gl (yvs (putL FI (p.1 * 512) PH))).rangeAt X 1 (yvs p.2).toList from by
              have hx := (HO8.out.rest X (by have := HXX.out.2; omega)).trans (show W7.drew.heap[X]? = _ from H7.out.1)
              exact ⟨(rd_at HR8.out.dev).1, wrow_addr hx, wrow_bytes hx⟩)
            have HTT := Lib.hid (show Touch [D, gl] w (W7.drew.setRow gl (yvs (putL FI (p.1 * 512) PH))) from HT7.out.trans ((Touch.of_below (Below.refl _ _).drew).trans (Touch.of_only HO8.out (by simp))))
            clear ht hPH hpl HNX2
            go_upto_region 9 with fail
            clear htb
            try simp only [Act.put]
            refine wp_region_noPanic ?_
            refine wp_region_held_drew (S := fun W => W.cell? ⟨D, 0, none⟩ = some (.slice (some ⟨gl, 0, none⟩) n n) ∧ W.cell? ⟨X, 0, none⟩ = some (.int .u32 (p.1 : Int)) ∧ W.rangeAt X 1 (yvs p.2).toList) (by kernel_rfl) (HS6.out _ (Below.refl _ W7).drew) (fun hHeld => ?_)
            refine wpAnyH_take (i := 0) (oi := ⟨some 32, _, _, _, _, _⟩) (v := ?_) rfl (by kernel_rfl) (by decide +kernel) (by decide +kernel) (fun _ _ _ h => h) (Or.inl ⟨by rfl, ?_⟩) (by assumption) ?_
            rotate_left 1
            · (intro w' hSw; go_simp; try with_reducible rfl)
            try simp only [Act.put, List.setIfInBounds_toArray, List.set_cons_zero, List.set_cons_succ]
            refine wpAnyH_take (i := 1) (oi := ⟨some 33, _, _, _, _, _⟩) (v := ?_) rfl (by kernel_rfl) (by decide +kernel) (by decide +kernel) (fun _ _ _ h => h) (Or.inl ⟨by rfl, ?_⟩) (by assumption) ?_
            rotate_left 1
            · (intro w' hSw; go_simp; try with_reducible rfl)
            try simp only [Act.put, List.setIfInBounds_toArray, List.set_cons_zero, List.set_cons_succ]
            refine wpAnyH_take (i := 2) (oi := ⟨some 34, _, _, _, _, _⟩) (v := ?_) rfl (by kernel_rfl) (by decide +kernel) (by decide +kernel) (fun _ _ _ h => h) (Or.inl ⟨by rfl, ?_⟩) (by assumption) ?_
            rotate_left 1
            · (intro w' hSw; go_simp; try with_reducible rfl)
            try simp only [Act.put, List.setIfInBounds_toArray, List.set_cons_zero, List.set_cons_succ]
            refine wpAnyH_take (i := 3) (oi := ⟨some 35, _, _, _, _, _⟩) (v := ?_) rfl (by kernel_rfl) (by decide +kernel) (by decide +kernel) (fun _ _ _ h => h) (Or.inl ⟨by rfl, ?_⟩) (by assumption) ?_
            rotate_left 1
            · (intro w' hSw; have hcell := hSw.1; clear hSw; go_simp; try with_reducible rfl)
            try simp only [Act.put, List.setIfInBounds_toArray, List.set_cons_zero, List.set_cons_succ]
            refine wpAnyH_take (i := 4) (oi := ⟨some 36, _, _, _, _, _⟩) (v := ?_) rfl (by kernel_rfl) (by decide +kernel) (by decide +kernel) (fun _ _ _ h => h) (Or.inl ⟨by rfl, ?_⟩) (by assumption) ?_
            rotate_left 1
            · (intro w' hSw; go_simp; try with_reducible rfl)
            try simp only [Act.put, List.setIfInBounds_toArray, List.set_cons_zero, List.set_cons_succ]
            refine wpAnyH_take (i := 5) (oi := ⟨some 37, _, _, _, _, _⟩) (v := ?_) rfl (by kernel_rfl) (by decide +kernel) (by decide +kernel) (fun _ _ _ h => h) (Or.inl ⟨by rfl, ?_⟩) (by assumption) ?_
            rotate_left 1
            · (intro w' hSw; have hcell := hSw.2.1; clear hSw; go_simp; try with_reducible rfl)
            try simp only [Act.put, List.setIfInBounds_toArray, List.set_cons_zero, List.set_cons_succ]
            have hix := index_sec gl n p.1 HP.out.2
            refine wpAnyH_take (i := 6) (oi := ⟨some 38, _, _, _, _, _⟩) (v := ?_) rfl (by kernel_rfl) (by decide +kernel) (by decide +kernel) (fun _ _ _ h => h) (Or.inl ⟨by rfl, ?_⟩) (by assumption) ?_
            rotate_left 1
            · (intro w' hSw; go_simp; try with_reducible rfl)
            try simp only [Act.put, List.setIfInBounds_toArray, List.set_cons_zero, List.set_cons_succ]
            clear hix
            have hsh := slice_half gl (p.1 * 512)
            refine wpAnyH_take (i := 7) (oi := ⟨some 39, _, _, _, _, _⟩) (v := ?_) rfl (by kernel_rfl) (by decide +kernel) (by decide +kernel) (fun _ _ _ h => h) (Or.inl ⟨by rfl, ?_⟩) (by assumption) ?_
            rotate_left 1
            · (intro w' hSw; go_simp; try with_reducible rfl)
            try simp only [Act.put, List.setIfInBounds_toArray, List.set_cons_zero, List.set_cons_succ]
            clear hsh
            refine wpAnyH_take (i := 8) (oi := ⟨some 40, _, _, _, _, _⟩) (v := ?_) rfl (by kernel_rfl) (by decide +kernel) (by decide +kernel) (fun _ _ _ h => h) (Or.inl ⟨by rfl, ?_⟩) (by assumption) ?_
            rotate_left 1
            · (intro w' hSw; go_simp; try with_reducible rfl)
            try simp only [Act.put, List.setIfInBounds_toArray, List.set_cons_zero, List.set_cons_succ]
            have hsh := slice_half X 1
            refine wpAnyH_take (i := 9) (oi := ⟨some 41, _, _, _, _, _⟩) (v := ?_) rfl (by kernel_rfl) (by decide +kernel) (by decide +kernel) (fun _ _ _ h => h) (Or.inl ⟨by rfl, ?_⟩) (by assumption) ?_
            rotate_left 1
            · (intro w' hSw; go_simp; try with_reducible rfl)
            try simp only [Act.put, List.setIfInBounds_toArray, List.set_cons_zero, List.set_cons_succ]
            clear hsh hHeld
            refine wpAnyH_ready (rs := [10]) (by decide +kernel) (by simp) ?_
            refine AllReadyH.cons rfl (fun K hK => ?_) AllReadyH.nil
            refine ystep_copy (o := ⟨some 42, _, _, _, _, _⟩) rfl (.tmp 39) (.tmp 41) 36 36 (by rfl) 5 Try.underlying36 yone gl (p.1 * 512) 256 512 ⟨X, 1, none⟩ 256 512 (by rfl) (by rfl) (yvs FI).toList 49 HAC.out (yvs PH).toList HCP.out.1 HSRC.out HCP.out.2.1 HCP.out.2.2 ?_
            rw [yvs_putL]
            refine hK.out _ _ (HS8.out) (fun hHeld => ?_)
            clear hK K hHeld
            try simp only [Act.put]
            refine wpAnyH_done (by decide +kernel) ?_ _
            refine NoPanic.normal ?_
            go_wp2_with fail
            go_roundw
            case rel => exact ⟨i + 1, by have := HLT.out; omega, by go_num, by rw [HN2.out]; exact HR8.out, HTT.out⟩
            case measure => simp [intOf]; have := HLT.out; omega
          · have htb : ((i : Int) == torn) = false := by simp [ht]
            by_cases hb : b % 2 = 1
            · have hbb : ((b : Int) % 2 == 1) = true := by simp; omega
              have HN2 := Lib.hid (show crashM keep torn F ws (i + 1) = putL FI (p.1 * 512) p.2 by rw [HNX2.out, if_neg ht, if_pos hb])
              have IP := Lib.hid (show (Try.prog.info? 49).map (·.size) = some (yvs p.2).toList.length by rw [Array.length_toList]; exact size_s512 _ HP.out.1)
              have SP := Lib.hid (size_s512 _ HP.out.1)
              have HTH := Lib.hid (show W7.drew.there gl (p.1 * 512) (yvs p.2).size by rw [yvs_size, HP.out.1]; exact (show ArrY W7.drew gl 49 _ from HR7.out.lay).there _ _ HFL.out)
              have HO8 := Lib.hid (only_setCells (yvs p.2).toList (p.1 * 512) W7.drew W7.drew (Only.refl gl _))
              have HA8 := Lib.hid (ArrY.put 49 gl p.2 (p.1 * 512) _ W7.drew HR7.out.lay (by rw [HP.out.1]; exact HFL.out))
              have HR8 := Lib.hid ((HR7.out.below (Below.refl _ _).drew).relay HO8.out HA8.out (by rw [putL_length _ _ _ (by rw [HP.out.1]; exact HFL.out)]; exact HR7.out.len))
              have HS7 := Lib.hid (show (W7.drew.setCells gl (p.1 * 512) (yvs p.2).toList).cell? ⟨D, 0, none⟩ = some (.slice (some ⟨gl, 0, none⟩) n n) ∧ (W7.drew.setCells gl (p.1 * 512) (yvs p.2).toList).cell? ⟨X, 0, none⟩ = some (.int .u32 (p.1 : Int)) ∧ (W7.drew.setCells gl (p.1 * 512) (yvs p.2).toList).rangeAt X 1 (yvs p.2).toList from by
                have hx := (HO8.out.rest X (by have := HXX.out.2; omega)).trans (show W7.drew.heap[X]? = _ from H7.out.1)
                exact ⟨(rd_at HR8.out.dev).1, wrow_addr hx, wrow_bytes hx⟩)
              have HTT := Lib.hid (show Touch [D, gl] w (W7.drew.setCells gl (p.1 * 512) (yvs p.2).toList) from HT7.out.trans ((Touch.of_below (Below.refl _ _).drew).trans (Touch.of_only HO8.out (by simp))))
              clear ht hb HNX2
              go_upto_region 11 with fail
              clear htb hbb
              try simp only [Act.put]
              refine wp_region_noPanic ?_
              refine wp_region_held_drew (S := fun W => W.cell? ⟨D, 0, none⟩ = some (.slice (some ⟨gl, 0, none⟩) n n) ∧ W.cell? ⟨X, 0, none⟩ = some (.int .u32 (p.1 : Int)) ∧ W.rangeAt X 1 (yvs p.2).toList) (by kernel_rfl) (HS6.out _ (Below.refl _ W7).drew) (fun hHeld => ?_)
              refine wpAnyH_take (i := 0) (oi := ⟨some 46, _, _, _, _, _⟩) (v := ?_) rfl (by kernel_rfl) (by decide +kernel) (by decide +kernel) (fun _ _ _ h => h) (Or.inl ⟨by rfl, ?_⟩) (by assumption) ?_
              rotate_left 1
              · (intro w' hSw; go_simp; try with_reducible rfl)
              try simp only [Act.put, List.setIfInBounds_toArray, List.set_cons_zero, List.set_cons_succ]
              refine wpAnyH_take (i := 1) (oi := ⟨some 47, _, _, _, _, _⟩) (v := ?_) rfl (by kernel_rfl) (by decide +kernel) (by decide +kernel) (fun _ _ _ h => h) (Or.inl ⟨by rfl, ?_⟩) (by assumption) ?_
              rotate_left 1
              · (intro w' hSw; go_simp; try with_reducible rfl)
              try simp only [Act.put, List.setIfInBounds_toArray, List.set_cons_zero, List.set_cons_succ]
              refine wpAnyH_take (i := 2) (oi := ⟨some 48, _, _, _, _, _⟩) (v := ?_) rfl (by kernel_rfl) (by decide +kernel) (by decide +kernel) (fun _ _ _ h => h) (Or.inl ⟨by rfl, ?_⟩) (by assumption) ?_
              rotate_left 1
              · (intro w' hSw; go_simp; try with_reducible rfl)
              try simp only [Act.put, List.setIfInBounds_toArray, List.set_cons_zero, List.set_cons_succ]
              refine wpAnyH_take (i := 3) (oi := ⟨some 49, _, _, _, _, _⟩) (v := ?_) rfl (by kernel_rfl) (by decide +kernel) (by decide +kernel) (fun _ _ _ h => h) (Or.inl ⟨by rfl, ?_⟩) (by assumption) ?_
              rotate_left 1
              · (intro w' hSw; have hcell := hSw.1; clear hSw; go_simp; try with_reducible rfl)
              try simp only [Act.put, List.setIfInBounds_toArray, List.set_cons_zero, List.set_cons_succ]
              refine wpAnyH_take (i := 4) (oi := ⟨some 50, _, _, _, _, _⟩) (v := ?_) rfl (by kernel_rfl) (by decide +kernel) (by decide +kernel) (fun _ _ _ h => h) (Or.inl ⟨by rfl, ?_⟩) (by assumption) ?_
              rotate_left 1
              · (intro w' hSw; go_simp; try with_reducible rfl)
              try simp only [Act.put, List.setIfInBounds_toArray, List.set_cons_zero, List.set_cons_succ]
              refine wpAnyH_take (i := 5) (oi := ⟨some 51, _, _, _, _, _⟩) (v := ?_) rfl (by kernel_rfl) (by decide +kernel) (by decide +kernel) (fun _ _ _ h => h) (Or.inl ⟨by rfl, ?_⟩) (by assumption) ?_
              rotate_left 1
              · (intro w' hSw; have hcell := hSw.2.1; clear hSw; go_simp; try with_reducible rfl)
              try simp only [Act.put, List.setIfInBounds_toArray, List.set_cons_zero, List.set_cons_succ]
              refine wpAnyH_take (i := 6) (oi := ⟨some 52, _, _, _, _, _⟩) (v := ?_) rfl (by kernel_rfl) (by decide +kernel) (by decide +kernel) (fun _ _ _ h => h) (Or.inl ⟨by rfl, ?_⟩) (by assumption) ?_
              rotate_left 1
              · (intro w' hSw; go_simp; try with_reducible rfl)
              try simp only [Act.put, List.setIfInBounds_toArray, List.set_cons_zero, List.set_cons_succ]
              refine wpAnyH_take (i := 7) (oi := ⟨some 53, _, _, _, _, _⟩) rfl (by kernel_rfl) (by decide +kernel) (by decide +kernel) (fun _ _ _ h => h) (yieldsIf_load_mid (by rfl) _ _ rfl (X) (1) rfl (yvs p.2).toList _ (fun w' h => h.2.2) Try.underlying49 rfl IP.out) (by assumption) ?_
              try simp only [Act.put, List.setIfInBounds_toArray, List.set_cons_zero, List.set_cons_succ, Array.toArray_toList]
              have hix := index_sec gl n p.1 HP.out.2
              refine wpAnyH_take (i := 8) (oi := ⟨some 54, _, _, _, _, _⟩) (v := ?_) rfl (by kernel_rfl) (by decide +kernel) (by decide +kernel) (fun _ _ _ h => h) (Or.inl ⟨by rfl, ?_⟩) (by assumption) ?_
              rotate_left 1
              · (intro w' hSw; go_simp; try with_reducible rfl)
              try simp only [Act.put, List.setIfInBounds_toArray, List.set_cons_zero, List.set_cons_succ]
              clear hix hHeld
              refine wpAnyH_ready (rs := [9]) (by decide +kernel) (by simp) ?_
              refine AllReadyH.cons rfl (fun K hK => ?_) AllReadyH.nil
              rw [if_pos (by kernel_rfl)]
              refine wp_store_mid (op := ⟨none, .store _ (.tmp 54) _, _, _, _, _⟩) 49 _ _ rfl gl (p.1 * 512) (yvs p.2) rfl rfl HTH.out SP.out (yvs_one _) ?_
              refine hK.out _ _ (HS7.out) (fun hHeld => ?_)
              clear hK K hHeld
              try simp only [Act.put]
              refine wpAnyH_done (by decide +kernel) ?_ _
              refine NoPanic.normal ?_
              go_wp2_with fail
              go_roundw
              case rel => exact ⟨i + 1, by have := HLT.out; omega, by go_num, by rw [HN2.out]; exact HR8.out, HTT.out⟩
              case measure => simp [intOf]; have := HLT.out; omega
            · have hbb : ((b : Int) % 2 == 1) = false := by simp; omega
              have HN2 := Lib.hid (show crashM keep torn F ws (i + 1) = FI by rw [HNX2.out, if_neg ht, if_neg hb])
              clear ht hb HNX2
              go_wp2_with fail
              go_roundw
              case rel => exact ⟨i + 1, by have := HLT.out; omega, by go_num, by rw [HN2.out]; exact HR7.out, HT7.out⟩
              case measure => simp [intOf]; have := HLT.out; omega
    · have hbv : decide (i < N) = false := by simp; omega
      have hi2 : i = N := by omega
      rw [hi2] at hR
      obtain ⟨_, d1, d2, d3⟩ := rd_at hR.dev
      have f1 := rd_free hR.dev 1
      have f2 := rd_free hR.dev 2
      have f3 := rd_free hR.dev 3
      have h1 := heap_setCell_same wr D 1 _ _ (.slice none 0 0) hR.dev
      have h2 := heap_setCell_same _ D 3 _ _ (.bool false) h1
      have h3 := heap_setCell_same _ D 2 _ _ (.int .i64 (-1)) h2
      have HDD := Lib.hid h3
      have HO := Lib.hid (show Only D wr (((wr.setCell ⟨D, 1, none⟩ (.slice none 0 0)).setCell ⟨D, 3, none⟩ (.bool false)).setCell ⟨D, 2, none⟩ (.int .i64 (-1))) from (((Only.refl _ _).setCell _ _).setCell _ _).setCell _ _)
      have HR := Lib.hid hR
      have HEND := Lib.hid (show Touch [D, gl] w (((wr.setCell ⟨D, 1, none⟩ (.slice none 0 0)).setCell ⟨D, 3, none⟩ (.bool false)).setCell ⟨D, 2, none⟩ (.int .i64 (-1))) from hT.trans (Touch.of_only HO.out (by simp)))
      clear hR hT hi hlt hi2 h1 h2 h3
      go_wp2_with fail
      go_end0
      exact ⟨rfl, ⟨HDD.out, HO.out.arr HR.out.lay (type_ne HR.out.lay HR.out.dev (by decide)), HR.out.len, World.ownsRow_nil _ _ _ _, (fun p hp => by cases hp), HR.out.big, by omega⟩, HEND.out⟩
end Go.Proofs.Ytmfpdbmohebodaa
