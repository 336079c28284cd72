/-
  The program's device of layer 6: what waits, settled; Flush, Crash.
-/
import Derived.Test.YtmfpdbmohebodaaPWrite
namespace Go.Proofs.Ytmfpdbmohebodaa
open Go.RowKit

theorem pslice_half (g o : Nat) (W : World) : (Instr.sliceAt 74 (.pointer (some ⟨g, o, none⟩)) none (some (.int .i64 256)) none).run Try.prog W = .ok (.slice (some ⟨g, o, none⟩) 256 512) W := by
  obtain ⟨i0, hi0, _⟩ := Option.map_eq_some_iff.1 yone
  have b : (Instr.sliceBound (.int .i64 256) 512 .sliceAlen).run Try.prog W = .ok 256 W := ybound_ok 256 512 .sliceAlen (by omega) W
  simp [Instr.sliceAt, run_underlying Try.underlying74, Instr.sureAddr, Instr.sliceBounds, sizeOf, typeInfo, hi0, Addr.add_mid, b]
theorem range_head {w : World} {g o : Nat} {x : Value} {xs : List Value} (h : w.rangeAt g o (x :: xs)) : w.cell? ⟨g, o, none⟩ = some x := by
  have q := h 0 x rfl
  exact q
theorem cell_congr {w w' : World} {b : Nat} (e : w'.heap[b]? = w.heap[b]?) (o : Nat) : w'.cell? ⟨b, o, none⟩ = w.cell? ⟨b, o, none⟩ := by simp [World.cell?, e]
theorem shr_bit (keep m : Nat) : (bits BinOp.and IntKind.u64 ((keep : Int) / 2 ^ m) 1 == 1) = decide (keep / 2 ^ m % 2 = 1) := by
  rw [show ((keep : Int) / 2 ^ m) = ((keep / 2 ^ m : Nat) : Int) by simp, show (1 : Int) = ((1 : Nat) : Int) from rfl, ybits_and]
  generalize keep / 2 ^ m = x
  rw [show IntKind.u64.bits = 64 from rfl, show 1 % 2 ^ 64 = 1 from rfl, Nat.and_one_is_mod, show x % 2 ^ 64 % 2 = x % 2 by omega, IntWalk.u64_in _ (by omega)]
  rw [Bool.eq_iff_iff]; simp; omega

set_option maxRecDepth 100000 in
set_option maxHeartbeats 3200000 in
theorem psettle_any (D gl bm n keep : Nat) (torn : Int) (vw : Value) (F : List (BitVec 8)) (ws : List (Nat × List (BitVec 8))) (lim : Int) (dn : Bool) (w : World) (h : PD w D gl bm n vw F ws lim dn) (hws : ws.length ≤ 1000000) (hk : keep < 18446744073709551616) :
    Calls Try.prog 34 #[.pointer (some ⟨D, 0, none⟩), .int .u64 (keep : Int), .int .i64 torn] w fun e w' => e = .returned (.tuple #[]) ∧ ∃ bm', PD w' D gl bm' n (.slice none 0 0) (crashM keep torn F ws ws.length) [] lim dn ∧ Touch [D, gl] w w' ∧ w.heap.size ≤ bm' := by
  obtain ⟨aw, capw, rfl, hag⟩ := pd_form h
  obtain ⟨left, hd, _⟩ := h.dev
  obtain ⟨_, d1, _⟩ := pd_at hd
  have HAG := Lib.hid hag
  have H1 := Lib.hid h
  have wI : (ws.length : Int) ≤ 1000000 := by omega
  have HK := Lib.hid hk
  clear h hws hag hk hd
  go_enter Try.func34, Try.ntmps34
  generalize hN : ws.length = N at *
  have HN := Lib.hid hN
  clear hN
  go_wp2_with fail
  clear d1
  go_loopw [13] (fun v13 wr => ∃ i : Nat, i ≤ N ∧ v13 = .int .i64 (i : Nat) ∧ PD wr D gl bm n (.slice aw N capw) (crashM keep torn F ws i) ws lim dn ∧ Touch [D, gl] w wr) (fun v _ => N - (intOf v).toNat)
  case atStart => exact ⟨0, by omega, rfl, H1.out, Touch.refl _ _⟩
  case round =>
    obtain ⟨i, hi, rfl, hR, hT⟩ := hrel
    by_cases hlt : i < N
    · obtain ⟨g, rfl⟩ := HAG.out (by omega)
      have hil : i < ws.length := by have := HN.out; omega
      have hpw := hR.wok _ (List.getElem_mem hil)
      have hnx : crashM keep torn F ws (i + 1) = stepC keep torn (crashM keep torn F ws i) ws[i] i := by rw [crashM]; simp [List.getD, hil]
      have hrg := own_range (by have q := hR.wai; rw [HN.out] at q ⊢; exact q) (fun p hp => (hR.wok p hp).1) i hil
      obtain ⟨left, hd, _⟩ := hR.dev
      obtain ⟨c0, c1, _⟩ := pd_at hd
      have hgD : g ≠ D := fun e => (own_type hR.wai hd (by decide)) (by rw [e]; rfl)
      have hgL : g ≠ gl := fun e => (own_type hR.wai hR.lay (by decide)) (by rw [e]; rfl)
      generalize hp : ws[i] = p at *
      obtain ⟨FI, hFI⟩ : ∃ y, crashM keep torn F ws i = y := ⟨_, rfl⟩
      rw [hFI] at hnx hR
      have hix := pindex_wait g N capw i hlt
      have HP := Lib.hid hpw
      have HR := Lib.hid hR
      have HT := Lib.hid hT
      have HLT := Lib.hid hlt
      have iI : (i : Int) < (N : Int) := by omega
      have i0 : (0 : Int) ≤ (i : Int) := by omega
      have HC := Lib.hid (range_head hrg)
      have HRG := Lib.hid (show wr.rangeAt g (i * 513 + 1) (yvs p.2).toList from by have q := range_tail hrg; simpa [yvs] using q)
      have HS6 := Lib.hid (show ∀ W, Below wr.heap.size wr W → W.cell? ⟨D, 0, none⟩ = some (.slice (some ⟨gl, 0, none⟩) n n) ∧ W.cell? ⟨g, i * 513, none⟩ = some (.int .u32 (p.1 : Int)) ∧ W.rangeAt g (i * 513 + 1) (yvs p.2).toList from fun W hW => by
        have hgl : g < wr.heap.size := own_lt HR.out.wai g rfl
        exact ⟨(hW.cell (p := ⟨D, 0, none⟩) (HR.out.lt D (by simp [pfp]))).trans c0, (hW.cell (p := ⟨g, i * 513, none⟩) hgl).trans HC.out, fun j v hv => (hW.cell (p := ⟨g, i * 513 + 1 + j, none⟩) hgl).trans (HRG.out j v hv)⟩)
      have HSO := Lib.hid (show ∀ W, Only gl wr.drew W → W.cell? ⟨D, 0, none⟩ = some (.slice (some ⟨gl, 0, none⟩) n n) ∧ W.cell? ⟨g, i * 513, none⟩ = some (.int .u32 (p.1 : Int)) ∧ W.rangeAt g (i * 513 + 1) (yvs p.2).toList from fun W hW => by
        have e1 := hW.rest g hgL
        have e2 := hW.rest D (type_ne hd HR.out.lay (by decide))
        have hD2 : W.heap[D]? = _ := e2.trans hd
        refine ⟨(pd_at hD2).1, (cell_congr e1 _).trans HC.out, fun j v hv => (cell_congr e1 _).trans (HRG.out j v hv)⟩)
      obtain ⟨m, hm, hm2⟩ : ∃ m : Nat, (i : Int) % 64 = (m : Int) ∧ i % 64 = m := ⟨i % 64, by omega, rfl⟩
      have HM := Lib.hid (show m < 64 by omega)
      have HNX2 := Lib.hid (show crashM keep torn F ws (i + 1) = if (i : Int) = torn then putL FI (p.1 * 512) (p.2.take 256) else if keep / 2 ^ m % 2 = 1 then putL FI (p.1 * 512) p.2 else FI by rw [hnx, stepC, hm2])
      have hfl : p.1 * 512 + 512 ≤ FI.length := by rw [HR.out.len]; have := HP.out.2; omega
      have HFL := Lib.hid hfl
      clear hR hT hi hlt hil hpw hnx hrg hp hFI hm2 hfl hd c0 hgD hgL
      by_cases ht : (i : Int) = torn
      · have htb : ((i : Int) == torn) = true := by simp [ht]
        have HN2 := Lib.hid (show crashM keep torn F ws (i + 1) = putL FI (p.1 * 512) (p.2.take 256) by rw [HNX2.out, if_pos ht])
        obtain ⟨PH, hPH⟩ : ∃ y, p.2.take 256 = y := ⟨_, rfl⟩
        have hpl : PH.length = 256 := by rw [← hPH, List.length_take, HP.out.1]; omega
        rw [hPH] at HN2
        have HAC := Lib.hid (show wr.drew.heap[gl]? = some (.cells (yvs FI).toList.toArray 74 (0, 0)) from HR.out.lay)
        have HSRC := Lib.hid (show ∀ j v, (yvs PH).toList[j]? = some v → wr.drew.cell? ((⟨g, i * 513 + 1, none⟩ : Addr).add j) = some v from fun j v hv => by
          rw [Addr.add_mid]
          have hj : j < 256 := by
            have := (List.getElem?_eq_some_iff.1 hv).1
            rwa [Array.length_toList, yvs_size, hpl] at this
          refine (HS6.out _ (Below.refl _ wr).drew).2.2 j v ?_
          rw [← hv, ← hPH]
          simp [yvs, hj])
        have HCP := Lib.hid (show (yvs PH).toList.length = Nat.min 512 256 ∧ p.1 * 512 + (yvs PH).toList.length ≤ (yvs FI).toList.length ∧ ∀ v ∈ (yvs PH).toList, v.oneCell' = true from
          ⟨by rw [Array.length_toList, yvs_size, hpl]; rfl, by rw [Array.length_toList, Array.length_toList, yvs_size, yvs_size, hpl]; have := HFL.out; omega, fun v hv => Array.all_eq_true_iff_forall_mem.1 (yvs_one PH) v (by simpa using hv)⟩)
        have HO8 := Lib.hid (only_setRow wr.drew gl (yvs (putL FI (p.1 * 512) PH)))
        have HR8 := Lib.hid ((HR.out.below (Below.refl _ _).drew).relay HO8.out (setRow_heap wr.drew gl _ _ _ (0, 0) HR.out.lay) (by rw [putL_length _ _ _ (by rw [hpl]; have := HFL.out; omega)]; exact HR.out.len))
        have HS8 := Lib.hid (HSO.out _ HO8.out)
        have HTT := Lib.hid (show Touch [D, gl] w (wr.drew.setRow gl (yvs (putL FI (p.1 * 512) PH))) from HT.out.trans ((Touch.of_below (Below.refl _ _).drew).trans (Touch.of_only HO8.out (by simp))))
        clear ht hPH hpl HNX2
        go_upto_region 5 with fail
        clear htb hix c1
        try simp only [Act.put]
        refine wp_region_noPanic ?_
        refine wp_region_held_drew (S := fun W => W.cell? ⟨D, 0, none⟩ = some (.slice (some ⟨gl, 0, none⟩) n n) ∧ W.cell? ⟨g, i * 513, none⟩ = some (.int .u32 (p.1 : Int)) ∧ W.rangeAt g (i * 513 + 1) (yvs p.2).toList) (by kernel_rfl) (HS6.out _ (Below.refl _ wr).drew) (fun hHeld => ?_)
        refine wpAnyH_take (i := 0) (oi := ⟨some 25, _, _, _, _, _⟩) (v := ?_) rfl (by kernel_rfl) (by decide +kernel) (by decide +kernel) (fun _ _ _ h => h) (Or.inl ⟨by rfl, ?_⟩) (by assumption) ?_
        rotate_left 1
        · (intro w' hSw; go_simp; try with_reducible rfl)
        try simp only [Act.put, List.setIfInBounds_toArray, List.set_cons_zero, List.set_cons_succ]
        refine wpAnyH_take (i := 1) (oi := ⟨some 26, _, _, _, _, _⟩) (v := ?_) rfl (by kernel_rfl) (by decide +kernel) (by decide +kernel) (fun _ _ _ h => h) (Or.inl ⟨by rfl, ?_⟩) (by assumption) ?_
        rotate_left 1
        · (intro w' hSw; go_simp; try with_reducible rfl)
        try simp only [Act.put, List.setIfInBounds_toArray, List.set_cons_zero, List.set_cons_succ]
        refine wpAnyH_take (i := 2) (oi := ⟨some 27, _, _, _, _, _⟩) (v := ?_) rfl (by kernel_rfl) (by decide +kernel) (by decide +kernel) (fun _ _ _ h => h) (Or.inl ⟨by rfl, ?_⟩) (by assumption) ?_
        rotate_left 1
        · (intro w' hSw; go_simp; try with_reducible rfl)
        try simp only [Act.put, List.setIfInBounds_toArray, List.set_cons_zero, List.set_cons_succ]
        refine wpAnyH_take (i := 3) (oi := ⟨some 28, _, _, _, _, _⟩) (v := ?_) rfl (by kernel_rfl) (by decide +kernel) (by decide +kernel) (fun _ _ _ h => h) (Or.inl ⟨by rfl, ?_⟩) (by assumption) ?_
        rotate_left 1
        · (intro w' hSw; have hcell := hSw.1; clear hSw; go_simp; try with_reducible rfl)
        try simp only [Act.put, List.setIfInBounds_toArray, List.set_cons_zero, List.set_cons_succ]
        refine wpAnyH_take (i := 4) (oi := ⟨some 29, _, _, _, _, _⟩) (v := ?_) rfl (by kernel_rfl) (by decide +kernel) (by decide +kernel) (fun _ _ _ h => h) (Or.inl ⟨by rfl, ?_⟩) (by assumption) ?_
        rotate_left 1
        · (intro w' hSw; go_simp; try with_reducible rfl)
        try simp only [Act.put, List.setIfInBounds_toArray, List.set_cons_zero, List.set_cons_succ]
        refine wpAnyH_take (i := 5) (oi := ⟨some 30, _, _, _, _, _⟩) (v := ?_) rfl (by kernel_rfl) (by decide +kernel) (by decide +kernel) (fun _ _ _ h => h) (Or.inl ⟨by rfl, ?_⟩) (by assumption) ?_
        rotate_left 1
        · (intro w' hSw; go_simp; try with_reducible rfl)
        try simp only [Act.put, List.setIfInBounds_toArray, List.set_cons_zero, List.set_cons_succ]
        refine wpAnyH_take (i := 6) (oi := ⟨some 31, _, _, _, _, _⟩) (v := ?_) rfl (by kernel_rfl) (by decide +kernel) (by decide +kernel) (fun _ _ _ h => h) (Or.inl ⟨by rfl, ?_⟩) (by assumption) ?_
        rotate_left 1
        · (intro w' hSw; go_simp; try with_reducible rfl)
        try simp only [Act.put, List.setIfInBounds_toArray, List.set_cons_zero, List.set_cons_succ]
        refine wpAnyH_take (i := 7) (oi := ⟨some 32, _, _, _, _, _⟩) (v := ?_) rfl (by kernel_rfl) (by decide +kernel) (by decide +kernel) (fun _ _ _ h => h) (Or.inl ⟨by rfl, ?_⟩) (by assumption) ?_
        rotate_left 1
        · (intro w' hSw; have hcell := hSw.2.1; clear hSw; go_simp; try with_reducible rfl)
        try simp only [Act.put, List.setIfInBounds_toArray, List.set_cons_zero, List.set_cons_succ]
        have hix := pindex_sec gl n p.1 HP.out.2
        refine wpAnyH_take (i := 8) (oi := ⟨some 33, _, _, _, _, _⟩) (v := ?_) rfl (by kernel_rfl) (by decide +kernel) (by decide +kernel) (fun _ _ _ h => h) (Or.inl ⟨by rfl, ?_⟩) (by assumption) ?_
        rotate_left 1
        · (intro w' hSw; go_simp; try with_reducible rfl)
        try simp only [Act.put, List.setIfInBounds_toArray, List.set_cons_zero, List.set_cons_succ]
        clear hix
        have hsh := pslice_half gl (p.1 * 512)
        refine wpAnyH_take (i := 9) (oi := ⟨some 34, _, _, _, _, _⟩) (v := ?_) rfl (by kernel_rfl) (by decide +kernel) (by decide +kernel) (fun _ _ _ h => h) (Or.inl ⟨by rfl, ?_⟩) (by assumption) ?_
        rotate_left 1
        · (intro w' hSw; go_simp; try with_reducible rfl)
        try simp only [Act.put, List.setIfInBounds_toArray, List.set_cons_zero, List.set_cons_succ]
        clear hsh
        refine wpAnyH_take (i := 10) (oi := ⟨some 35, _, _, _, _, _⟩) (v := ?_) rfl (by kernel_rfl) (by decide +kernel) (by decide +kernel) (fun _ _ _ h => h) (Or.inl ⟨by rfl, ?_⟩) (by assumption) ?_
        rotate_left 1
        · (intro w' hSw; go_simp; try with_reducible rfl)
        try simp only [Act.put, List.setIfInBounds_toArray, List.set_cons_zero, List.set_cons_succ]
        refine wpAnyH_take (i := 11) (oi := ⟨some 36, _, _, _, _, _⟩) (v := ?_) rfl (by kernel_rfl) (by decide +kernel) (by decide +kernel) (fun _ _ _ h => h) (Or.inl ⟨by rfl, ?_⟩) (by assumption) ?_
        rotate_left 1
        · (intro w' hSw; go_simp; try with_reducible rfl)
        try simp only [Act.put, List.setIfInBounds_toArray, List.set_cons_zero, List.set_cons_succ]
        refine wpAnyH_take (i := 12) (oi := ⟨some 37, _, _, _, _, _⟩) (v := ?_) rfl (by kernel_rfl) (by decide +kernel) (by decide +kernel) (fun _ _ _ h => h) (Or.inl ⟨by rfl, ?_⟩) (by assumption) ?_
        rotate_left 1
        · (intro w' hSw; go_simp; try with_reducible rfl)
        try simp only [Act.put, List.setIfInBounds_toArray, List.set_cons_zero, List.set_cons_succ]
        have hsh := pslice_sec g (i * 513 + 1)
        refine wpAnyH_take (i := 13) (oi := ⟨some 38, _, _, _, _, _⟩) (v := ?_) rfl (by kernel_rfl) (by decide +kernel) (by decide +kernel) (fun _ _ _ h => h) (Or.inl ⟨by rfl, ?_⟩) (by assumption) ?_
        rotate_left 1
        · (intro w' hSw; go_simp; try with_reducible rfl)
        try simp only [Act.put, List.setIfInBounds_toArray, List.set_cons_zero, List.set_cons_succ]
        clear hsh hHeld
        refine wpAnyH_ready (rs := [14]) (by decide +kernel) (by simp) ?_
        refine AllReadyH.cons rfl (fun K hK => ?_) AllReadyH.nil
        refine ystep_copy (o := ⟨some 39, _, _, _, _, _⟩) rfl (.tmp 34) (.tmp 38) 36 36 (by rfl) 5 Try.underlying36 yone gl (p.1 * 512) 256 512 ⟨g, i * 513 + 1, none⟩ 512 512 (by rfl) (by rfl) (yvs FI).toList 74 HAC.out (yvs PH).toList HCP.out.1 HSRC.out HCP.out.2.1 HCP.out.2.2 ?_
        rw [yvs_putL]
        refine hK.out _ _ (HS8.out) (fun hHeld => ?_)
        clear hK K hHeld
        try simp only [Act.put]
        refine wpAnyH_done (by decide +kernel) ?_ _
        refine NoPanic.normal ?_
        go_wp2_with fail
        go_roundw
        case rel => exact ⟨i + 1, by have := HLT.out; omega, by go_num, by rw [HN2.out]; exact HR8.out, HTT.out⟩
        case measure => simp [intOf]; have := HLT.out; omega
      · have htb : ((i : Int) == torn) = false := by simp [ht]
        by_cases hb : keep / 2 ^ m % 2 = 1
        · have hbb : (bits BinOp.and IntKind.u64 ((keep : Int) / 2 ^ m) 1 == 1) = true := by rw [shr_bit _ _]; simp [hb]
          have HN2 := Lib.hid (show crashM keep torn F ws (i + 1) = putL FI (p.1 * 512) p.2 by rw [HNX2.out, if_neg ht, if_pos hb])
          have IP := Lib.hid (show (Try.prog.info? 74).map (·.size) = some (yvs p.2).toList.length by rw [Array.length_toList]; exact psize_sec _ HP.out.1)
          have SP := Lib.hid (psize_sec _ HP.out.1)
          have HTH := Lib.hid (show wr.drew.there gl (p.1 * 512) (yvs p.2).size by rw [yvs_size, HP.out.1]; exact (show ArrY wr.drew gl 74 _ from HR.out.lay).there _ _ HFL.out)
          have HO8 := Lib.hid (only_setCells (yvs p.2).toList (p.1 * 512) wr.drew wr.drew (Only.refl gl _))
          have HA8 := Lib.hid (ArrY.put 74 gl p.2 (p.1 * 512) _ wr.drew HR.out.lay (by rw [HP.out.1]; exact HFL.out))
          have HR8 := Lib.hid ((HR.out.below (Below.refl _ _).drew).relay HO8.out HA8.out (by rw [putL_length _ _ _ (by rw [HP.out.1]; exact HFL.out)]; exact HR.out.len))
          have HS7 := Lib.hid (HSO.out _ HO8.out)
          have HTT := Lib.hid (show Touch [D, gl] w (wr.drew.setCells gl (p.1 * 512) (yvs p.2).toList) from HT.out.trans ((Touch.of_below (Below.refl _ _).drew).trans (Touch.of_only HO8.out (by simp))))
          clear ht hb HNX2
          go_upto_region 7 with fail
          clear htb hbb hix c1
          try simp only [Act.put]
          refine wp_region_noPanic ?_
          refine wp_region_held_drew (S := fun W => W.cell? ⟨D, 0, none⟩ = some (.slice (some ⟨gl, 0, none⟩) n n) ∧ W.cell? ⟨g, i * 513, none⟩ = some (.int .u32 (p.1 : Int)) ∧ W.rangeAt g (i * 513 + 1) (yvs p.2).toList) (by kernel_rfl) (HS6.out _ (Below.refl _ wr).drew) (fun hHeld => ?_)
          refine wpAnyH_take (i := 0) (oi := ⟨some 46, _, _, _, _, _⟩) (v := ?_) rfl (by kernel_rfl) (by decide +kernel) (by decide +kernel) (fun _ _ _ h => h) (Or.inl ⟨by rfl, ?_⟩) (by assumption) ?_
          rotate_left 1
          · (intro w' hSw; go_simp; try with_reducible rfl)
          try simp only [Act.put, List.setIfInBounds_toArray, List.set_cons_zero, List.set_cons_succ]
          refine wpAnyH_take (i := 1) (oi := ⟨some 47, _, _, _, _, _⟩) (v := ?_) rfl (by kernel_rfl) (by decide +kernel) (by decide +kernel) (fun _ _ _ h => h) (Or.inl ⟨by rfl, ?_⟩) (by assumption) ?_
          rotate_left 1
          · (intro w' hSw; go_simp; try with_reducible rfl)
          try simp only [Act.put, List.setIfInBounds_toArray, List.set_cons_zero, List.set_cons_succ]
          refine wpAnyH_take (i := 2) (oi := ⟨some 48, _, _, _, _, _⟩) (v := ?_) rfl (by kernel_rfl) (by decide +kernel) (by decide +kernel) (fun _ _ _ h => h) (Or.inl ⟨by rfl, ?_⟩) (by assumption) ?_
          rotate_left 1
          · (intro w' hSw; go_simp; try with_reducible rfl)
          try simp only [Act.put, List.setIfInBounds_toArray, List.set_cons_zero, List.set_cons_succ]
          refine wpAnyH_take (i := 3) (oi := ⟨some 49, _, _, _, _, _⟩) (v := ?_) rfl (by kernel_rfl) (by decide +kernel) (by decide +kernel) (fun _ _ _ h => h) (Or.inl ⟨by rfl, ?_⟩) (by assumption) ?_
          rotate_left 1
          · (intro w' hSw; have hcell := hSw.1; clear hSw; go_simp; try with_reducible rfl)
          try simp only [Act.put, List.setIfInBounds_toArray, List.set_cons_zero, List.set_cons_succ]
          refine wpAnyH_take (i := 4) (oi := ⟨some 50, _, _, _, _, _⟩) (v := ?_) rfl (by kernel_rfl) (by decide +kernel) (by decide +kernel) (fun _ _ _ h => h) (Or.inl ⟨by rfl, ?_⟩) (by assumption) ?_
          rotate_left 1
          · (intro w' hSw; go_simp; try with_reducible rfl)
          try simp only [Act.put, List.setIfInBounds_toArray, List.set_cons_zero, List.set_cons_succ]
          refine wpAnyH_take (i := 5) (oi := ⟨some 51, _, _, _, _, _⟩) (v := ?_) rfl (by kernel_rfl) (by decide +kernel) (by decide +kernel) (fun _ _ _ h => h) (Or.inl ⟨by rfl, ?_⟩) (by assumption) ?_
          rotate_left 1
          · (intro w' hSw; go_simp; try with_reducible rfl)
          try simp only [Act.put, List.setIfInBounds_toArray, List.set_cons_zero, List.set_cons_succ]
          refine wpAnyH_take (i := 6) (oi := ⟨some 52, _, _, _, _, _⟩) (v := ?_) rfl (by kernel_rfl) (by decide +kernel) (by decide +kernel) (fun _ _ _ h => h) (Or.inl ⟨by rfl, ?_⟩) (by assumption) ?_
          rotate_left 1
          · (intro w' hSw; go_simp; try with_reducible rfl)
          try simp only [Act.put, List.setIfInBounds_toArray, List.set_cons_zero, List.set_cons_succ]
          refine wpAnyH_take (i := 7) (oi := ⟨some 53, _, _, _, _, _⟩) (v := ?_) rfl (by kernel_rfl) (by decide +kernel) (by decide +kernel) (fun _ _ _ h => h) (Or.inl ⟨by rfl, ?_⟩) (by assumption) ?_
          rotate_left 1
          · (intro w' hSw; have hcell := hSw.2.1; clear hSw; go_simp; try with_reducible rfl)
          try simp only [Act.put, List.setIfInBounds_toArray, List.set_cons_zero, List.set_cons_succ]
          refine wpAnyH_take (i := 8) (oi := ⟨some 54, _, _, _, _, _⟩) (v := ?_) rfl (by kernel_rfl) (by decide +kernel) (by decide +kernel) (fun _ _ _ h => h) (Or.inl ⟨by rfl, ?_⟩) (by assumption) ?_
          rotate_left 1
          · (intro w' hSw; go_simp; try with_reducible rfl)
          try simp only [Act.put, List.setIfInBounds_toArray, List.set_cons_zero, List.set_cons_succ]
          refine wpAnyH_take (i := 9) (oi := ⟨some 55, _, _, _, _, _⟩) (v := ?_) rfl (by kernel_rfl) (by decide +kernel) (by decide +kernel) (fun _ _ _ h => h) (Or.inl ⟨by rfl, ?_⟩) (by assumption) ?_
          rotate_left 1
          · (intro w' hSw; go_simp; try with_reducible rfl)
          try simp only [Act.put, List.setIfInBounds_toArray, List.set_cons_zero, List.set_cons_succ]
          refine wpAnyH_take (i := 10) (oi := ⟨some 56, _, _, _, _, _⟩) (v := ?_) rfl (by kernel_rfl) (by decide +kernel) (by decide +kernel) (fun _ _ _ h => h) (Or.inl ⟨by rfl, ?_⟩) (by assumption) ?_
          rotate_left 1
          · (intro w' hSw; go_simp; try with_reducible rfl)
          try simp only [Act.put, List.setIfInBounds_toArray, List.set_cons_zero, List.set_cons_succ]
          refine wpAnyH_take (i := 11) (oi := ⟨some 57, _, _, _, _, _⟩) rfl (by kernel_rfl) (by decide +kernel) (by decide +kernel) (fun _ _ _ h => h) (yieldsIf_load_mid (by rfl) _ _ rfl (g) (i * 513 + 1) rfl (yvs p.2).toList _ (fun w' h => h.2.2) Try.underlying74 rfl IP.out) (by assumption) ?_
          try simp only [Act.put, List.setIfInBounds_toArray, List.set_cons_zero, List.set_cons_succ, Array.toArray_toList]
          have hix := pindex_sec gl n p.1 HP.out.2
          refine wpAnyH_take (i := 12) (oi := ⟨some 58, _, _, _, _, _⟩) (v := ?_) rfl (by kernel_rfl) (by decide +kernel) (by decide +kernel) (fun _ _ _ h => h) (Or.inl ⟨by rfl, ?_⟩) (by assumption) ?_
          rotate_left 1
          · (intro w' hSw; go_simp; try with_reducible rfl)
          try simp only [Act.put, List.setIfInBounds_toArray, List.set_cons_zero, List.set_cons_succ]
          clear hix hHeld
          refine wpAnyH_ready (rs := [13]) (by decide +kernel) (by simp) ?_
          refine AllReadyH.cons rfl (fun K hK => ?_) AllReadyH.nil
          rw [if_pos (by kernel_rfl)]
          refine wp_store_mid (op := ⟨none, .store _ (.tmp 58) _, _, _, _, _⟩) 74 _ _ rfl gl (p.1 * 512) (yvs p.2) rfl rfl HTH.out SP.out (yvs_one _) ?_
          refine hK.out _ _ (HS7.out) (fun hHeld => ?_)
          clear hK K hHeld
          try simp only [Act.put]
          refine wpAnyH_done (by decide +kernel) ?_ _
          refine NoPanic.normal ?_
          go_wp2_with fail
          go_roundw
          case rel => exact ⟨i + 1, by have := HLT.out; omega, by go_num, by rw [HN2.out]; exact HR8.out, HTT.out⟩
          case measure => simp [intOf]; have := HLT.out; omega
        · have hbb : (bits BinOp.and IntKind.u64 ((keep : Int) / 2 ^ m) 1 == 1) = false := by rw [shr_bit _ _]; simp [hb]
          have HN2 := Lib.hid (show crashM keep torn F ws (i + 1) = FI by rw [HNX2.out, if_neg ht, if_neg hb])
          clear ht hb HNX2
          go_wp2_with fail
          go_roundw
          case rel => exact ⟨i + 1, by have := HLT.out; omega, by go_num, by rw [HN2.out]; exact HR.out, HT.out⟩
          case measure => simp [intOf]; have := HLT.out; omega
    · have hbv : decide (i < N) = false := by simp; omega
      have hi2 : i = N := by omega
      rw [hi2] at hR
      obtain ⟨left, hd, hle⟩ := hR.dev
      have hmm : ∀ W : World, (Instr.makeMap 68 none).run Try.prog W = .ok (.map (some W.heap.size)) (W.alloc (.map #[] 0)) := fun W => run_makeMap _ W
      have hbA : Below wr.heap.size wr (wr.alloc (.map #[] 0)) := (Below.refl _ _).alloc (Nat.le_refl _) _
      have hdA := (hbA.block D (rd_lt hd)).trans hd
      obtain ⟨_, d1, d2, _⟩ := pd_at hdA
      have f1 := pd_free hdA 1
      have f2 := pd_free hdA 2
      have h1 := heap_setCell_same _ D 1 _ _ (.slice none 0 0) hdA
      have h2 := heap_setCell_same _ D 2 _ _ (.map (some wr.heap.size)) h1
      have HDD := Lib.hid h2
      have hO : Only D (wr.alloc (.map #[] 0)) (((wr.alloc (.map #[] 0)).setCell ⟨D, 1, none⟩ (.slice none 0 0)).setCell ⟨D, 2, none⟩ (.map (some wr.heap.size))) := ((Only.refl _ _).setCell _ _).setCell _ _
      have HO := Lib.hid hO
      have HLE := Lib.hid hle
      have HR := Lib.hid hR
      have HLA := Lib.hid (hO.arr (hR.lay.below hbA (zlt hR.lay)) (type_ne hR.lay hd (by decide)))
      have HMM := Lib.hid (show MapAt (((wr.alloc (.map #[] 0)).setCell ⟨D, 1, none⟩ (.slice none 0 0)).setCell ⟨D, 2, none⟩ (.map (some wr.heap.size))) wr.heap.size [] from
        (show MapAt (wr.alloc (.map #[] 0)) wr.heap.size [] from ⟨_, MapOf.none, World.ownsMap_made wr Try.prog 32 (plainElem (H := Unit) Try.prog 3)⟩).keep (hO.rest _ (by have := rd_lt hd; omega)))
      have HEND := Lib.hid (show Touch [D, gl] w (((wr.alloc (.map #[] 0)).setCell ⟨D, 1, none⟩ (.slice none 0 0)).setCell ⟨D, 2, none⟩ (.map (some wr.heap.size))) from (hT.trans (Touch.of_below hbA)).trans (Touch.of_only hO (by simp)))
      have HSZ := Lib.hid hT.size
      clear hR hT hi hlt hi2 h1 h2 hO hd hbA hdA hle
      go_wp2_with fail
      go_end0
      exact ⟨rfl, wr.heap.size, ⟨⟨left, HDD.out, HLE.out⟩, HLA.out, HR.out.len, World.ownsRow_nil _ _ _ _, (fun p hp => by cases hp), HR.out.big, HR.out.lim1, HMM.out⟩, HEND.out, HSZ.out⟩
end Go.Proofs.Ytmfpdbmohebodaa
