/-
  'DevActs' returns true at every input, and each argument reads behind the call as it read before. Conditions: none.
-/
import Derived.Test.YtmfpdbmohebodaaRows
import Derived.Test.YtmfpdbmohebodaaYLaid
import Derived.Test.YtmfpdbmohebodaaPActs
namespace Go.Proofs.Ytmfpdbmohebodaa.devActs
open Go.ChangeShapes Go.WideShapes Go.ChangeAt Go.RowKit
set_option linter.unusedVariables false

/-- An act of the law's, and its bytes, while the devices change. -/
structure AX (W : World) (T X : Nat) (q : ActV) (S : List (BitVec 8)) : Prop where
  act : W.heap[T]? = some (.cells (actRow q).toArray 35 (0, 0))
  byt : ArrY W X 5 S
theorem AX.plain {W : World} {T X : Nat} {q : ActV} {S : List (BitVec 8)} (h : AX W T X q S) : ∀ k ∈ [T, X], Plain W k := by
  intro k hk
  simp only [List.mem_cons, List.not_mem_nil, or_false] at hk
  rcases hk with rfl | rfl
  · exact ⟨_, _, _, h.act, .inr rfl⟩
  · exact ⟨_, _, _, h.byt, .inl rfl⟩
theorem AX.stay {W W' : World} {T X : Nat} {q : ActV} {S : List (BitVec 8)} {K : List Nat} (h : AX W T X q S) (s : Stay K W W') (hK : ∀ k ∈ [T, X], k ∈ K) : AX W' T X q S :=
  ⟨(s T (hK T (by simp))).trans h.act, (s X (hK X (by simp))).trans h.byt⟩
theorem AX.below {W W' : World} {T X : Nat} {q : ActV} {S : List (BitVec 8)} (h : AX W T X q S) (b : Below W.heap.size W W') : AX W' T X q S :=
  ⟨(b.block T (rd_lt h.act)).trans h.act, h.byt.below b (zlt h.byt)⟩
theorem AX.drewd {W : World} {T X : Nat} {q : ActV} {S : List (BitVec 8)} (h : AX W T X q S) : AX W.drew T X q S := h.below (Below.refl _ _).drew
section
variable {w0 w : World} {D gl n : Nat} {F : List (BitVec 8)} {ws : List (Nat × List (BitVec 8))} {lim : Int} {dn : Bool} {E hl m : Nat} {G : List (BitVec 8)} {vs : List (Nat × List (BitVec 8))} {lin : Int} {dm : Bool}
theorem _root_.Go.Proofs.Ytmfpdbmohebodaa.PR.rd (h : PR w0 w D gl n F ws lim dn E hl m G vs lin dm) : ∃ vv, RD w E hl m vv G vs lin dm := by
  obtain ⟨bm, vw, vv, h1, h2, _⟩ := h
  exact ⟨vv, h2⟩
theorem _root_.Go.Proofs.Ytmfpdbmohebodaa.PR.drewd (h : PR w0 w D gl n F ws lim dn E hl m G vs lin dm) : PR w0 w.drew D gl n F ws lim dn E hl m G vs lin dm := h.below (Below.refl _ _).drew
end
theorem po_size (w0 w : World) (K : List Nat) (D gl n : Nat) (F : List (BitVec 8)) (ws : List (Nat × List (BitVec 8))) (lim : Int) (dn : Bool) (h : PO w0 w K D gl n F ws lim dn) :
    Calls Try.prog 13 #[.pointer (some ⟨D, 0, none⟩)] w fun e w' => e = .returned (.int .i64 (n : Int)) ∧ w' = w := by
  obtain ⟨bm, vw, h, _⟩ := h
  exact psize_any D gl bm n vw F ws lim dn w h
theorem index_i64 (gl n a : Nat) (h : a < n) (W : World) : (Instr.indexAt 45 (.slice (some ⟨gl, 0, none⟩) n n) (.int .i64 (a : Int))).run Try.prog W = .ok (.pointer (some ⟨gl, a * 512, none⟩)) W := by
  obtain ⟨i0, hi, hs⟩ := Option.map_eq_some_iff.1 (show (Try.prog.info? 49).map (·.size) = some 512 by kernel_rfl)
  simp [Instr.indexAt, asIntOf, run_underlying Try.underlying45, sizeOf, typeInfo, hi, hs, h, Addr.add_mid]
theorem range_lt {w : World} {b o : Nat} {v : Value} {vs : List Value} (h : w.rangeAt b o (v :: vs)) : b < w.heap.size := by
  have q := h 0 v rfl
  apply Classical.byContradiction
  intro hn
  simp [World.cell?, Array.getElem?_eq_none (show w.heap.size ≤ b by omega)] at q

set_option maxRecDepth 100000 in
set_option maxHeartbeats 3200000 in
theorem walk (w : World) (x : Int) (hx0 : -9223372036854775808 ≤ x) (hx1 : x ≤ 9223372036854775807) (a1 : Option Addr) (len1 cap1 : Nat) (hact : ∀ i, i < len1 → ∃ b off, a1 = some ⟨b, off, none⟩ ∧ ∃ q : ActV, q.Ok ∧ w.rangeAt b (off + i * 7) (actRow q)) (hlen1 : len1 ≤ maxLen) :
    Calls Try.prog 3 #[.int .i64 x, .slice a1 len1 cap1] w fun e w' => e = .returned (.bool true) ∧ Below w.heap.size w w' := by
  have HACT := Lib.hid hact
  have lI : (len1 : Int) ≤ 9223372036854775807 := by unfold maxLen at hlen1; omega
  clear hact hlen1
  go_enter Try.func3, Try.ntmps3
  go_wp2_with fail
  refine (alive6_any w).mono ?_
  rintro e w1 ⟨rfl, hb1⟩
  have HB1 := Lib.hid hb1
  clear hb1
  by_cases hbig : 60 < len1
  · have h3 : (60 : Int) < (len1 : Int) := by omega
    go_wp2_with fail
    go_ret
    exact ⟨rfl, HB1.out⟩
  have h3 : decide ((60 : Int) < (len1 : Int)) = false := by simp; omega
  have HLE := Lib.hid (show len1 ≤ 60 by omega)
  clear hbig
  by_cases hsm : x < 16
  · have h4 : decide ((100 : Int) < x) = false := by simp; omega
    have HNP := Lib.hid (fun W => pnew_small x W hsm)
    have HNR := Lib.hid (fun W => rnew_small x W hsm)
    clear hsm
    go_wp2_with fail
    refine (HNP.out _).mono ?_
    rintro e w2 ⟨rfl, rfl⟩
    go_wp2_with fail
    refine (HNR.out _).mono ?_
    rintro e w3 ⟨rfl, rfl⟩
    go_wp2_with fail
    go_ret
    exact ⟨rfl, HB1.out⟩
  by_cases hlg : 4096 < x
  · have h4 : (100 : Int) < x := by omega
    have h5 : decide (x ≤ (4096 : Int)) = false := by simp; omega
    have HNP := Lib.hid (fun W => pnew_large x W hlg)
    have HNR := Lib.hid (fun W => rnew_large x W hlg)
    clear hsm hlg
    go_wp2_with fail
    refine (HNP.out _).mono ?_
    rintro e w2 ⟨rfl, rfl⟩
    go_wp2_with fail
    refine (HNR.out _).mono ?_
    rintro e w3 ⟨rfl, rfl⟩
    go_wp2_with fail
    go_ret
    exact ⟨rfl, HB1.out⟩
  by_cases hmd : 100 < x
  · have h5 : x ≤ (4096 : Int) := by omega
    clear hsm hlg
    go_wp2_with fail
    go_ret
    exact ⟨rfl, HB1.out⟩
  have h4 : decide ((100 : Int) < x) = false := by simp; omega
  obtain ⟨n, rfl⟩ : ∃ n : Nat, x = (n : Int) := ⟨x.toNat, by omega⟩
  have HN := Lib.hid (po_new w w1 n HB1.out (by omega) (by omega))
  have HNV := Lib.hid (fun W => ro_new W n (by omega) (by omega))
  have HN1 := Lib.hid (show n ≤ 100 by omega)
  have nI : (n : Int) ≤ 100 := by omega
  generalize zeroY (n * 512) = Z at *
  clear hsm hlg hmd hx0 hx1
  go_wp2_with fail
  refine HN.out.mono ?_
  rintro e w2 ⟨rfl, hP2, _⟩
  have HP2 := Lib.hid hP2
  have HN2 := Lib.hid (HNV.out w2)
  generalize w1.heap.size + 2 = D at *
  generalize w1.heap.size = gl at *
  clear hP2 HN HNV h3 h4
  go_wp2_with fail
  refine HN2.out.mono ?_
  rintro e w3 ⟨rfl, hR3⟩
  have HPQ := Lib.hid (PR.mk HP2.out hR3)
  generalize w2.heap.size + 1 = E at *
  generalize w2.heap.size = hl at *
  obtain ⟨K, _, hPP, _⟩ := HPQ.out.prog [] (by simp)
  have HCZ := Lib.hid (po_size w w3 _ D gl n _ _ _ _ hPP)
  clear hR3 HN2 HP2 hPP
  go_wp2_with fail
  refine HCZ.out.mono ?_
  rintro e w4 ⟨rfl, rfl⟩
  clear HCZ
  go_wp2_with fail
  go_loopw [68] (fun v68 wr => ∃ i : Nat, i ≤ len1 ∧ v68 = .int .i64 (i : Nat) ∧ ∃ F ws lim dn, PR w wr D gl n F ws lim dn E hl n F ws lim dn ∧ ws.length ≤ i) (fun v _ => len1 - (intOf v).toNat)
  case atStart => exact ⟨0, by omega, rfl, Z, [], -1, false, HPQ.out, by simp⟩
  case round =>
    obtain ⟨i, hi, rfl, F, ws, lim, dn, hP, hws⟩ := hrel
    by_cases hlt : i < len1
    · obtain ⟨b, off, rfl, q, hok, hrg⟩ := HACT.out i hlt
      have hbw : b < w.heap.size := range_lt hrg
      have HRG := Lib.hid (show wr.rangeAt b (off + i * 7) (actRow q) from fun j v hv => (hP.bel.cell (p := ⟨b, off + i * 7 + j, none⟩) hbw).trans (hrg j v hv))
      have hix := index_act b off len1 cap1 i hlt
      have hz := zero_act
      have SWC := Lib.hid (size_act q)
      have SWR := Lib.hid (show (Try.prog.info? 35).map (·.size) = some (actRow q).toArray.size from size_act q)
      have WO := Lib.hid (act_one q)
      have EW := Lib.hid (show (#[.int .i64 0, .int .u32 0, .int .u8 0, .int .u8 0, .bool false, .int .i64 0, .int .u64 0] : Array Value).size = (actRow q).toArray.size from rfl)
      generalize (#[.int .i64 0, .int .u32 0, .int .u8 0, .int .u8 0, .bool false, .int .i64 0, .int .u64 0] : Array Value) = ZA at *
      have iI : (i : Int) < (len1 : Int) := by omega
      have i0 : (0 : Int) ≤ (i : Int) := by omega
      have HWS := Lib.hid hws
      have HLT := Lib.hid hlt
      have HLI := Lib.hid (show i < 60 by have := HLE.out; omega)
      have HPR := Lib.hid hP
      have HOK := Lib.hid hok
      clear hP hi hlt hws hok hrg hbw
      go_upto_region 14 with (first
        | (with_reducible refine wpList_load_mid (op := ⟨some 71, _, _, _, _, _⟩) rfl 35 _ rfl b (off + i * 7) rfl (actRow q) _ HRG.out Try.underlying35 rfl SWC.out ?_)
        | (with_reducible refine wpList_store_row (o := ⟨none, .store _ (.tmp 10) _, _, _, _, _⟩) rfl 35 _ _ rfl wr.heap.size (actRow q).toArray rfl rfl 35 ZA (heap_alloc_new wr _) SWR.out EW.out WO.out ?_))
      clear hix hz
      generalize hW7 : World.setRow _ wr.heap.size _ = W7
      have h7 : W7.heap[wr.heap.size]? = some (.cells (actRow q).toArray 35 (0, 0)) ∧ Below wr.heap.size wr W7 := by
        obtain ⟨e1, e2, e3⟩ := ygen_row (w := wr) (old := ZA) (cs := (actRow q).toArray) (T := 35)
        rw [← hW7]
        exact ⟨e1, e3⟩
      have H7 := Lib.hid h7.1
      have HPR7 := Lib.hid (HPR.out.below h7.2)
      clear hW7 h7 HPR HRG SWC EW WO
      generalize wr.heap.size = T at *
      have HBY := Lib.hid (bytes_any q W7)
      go_wp2_with (first
        | (with_reducible refine wpList_load_row (o := ⟨some 72, _, _, _, _, _⟩) rfl 35 _ rfl T rfl 35 (actRow q).toArray (0, 0) _ H7.out Try.underlying35 rfl SWR.out ?_))
      refine HBY.out.mono ?_
      rintro e w8 ⟨⟨X, rfl, hA8⟩, hb8⟩
      have HAX := Lib.hid (show AX w8 T X q (secB q.x q.y) from ⟨(hb8.block T (rd_lt H7.out)).trans H7.out, hA8⟩)
      have HPR := Lib.hid (HPR7.out.below hb8)
      have HSL := Lib.hid (secB_length q.x q.y)
      have HO := Lib.hid (show (if q.sh = true then 511 else 512) = 512 → (if q.sh = true then 1 else 0) = 0 by cases q.sh <;> simp)
      generalize (if q.sh = true then 511 else 512) = lb at *
      generalize (if q.sh = true then 1 else 0) = o at *
      generalize secB q.x q.y = SB at *
      clear hA8 hb8 H7 HPR7 HBY SWR
      obtain ⟨kd, adr, sx, sy, sh, nn, kp⟩ := q
      obtain ⟨cc0, cc1, _, _, _, cc5, cc6⟩ := act_at HAX.out.act
      dsimp only at cc0 cc1 cc5 cc6
      have aI : (adr : Int) < 4294967296 := by have := HOK.out.adr; (try dsimp only at this); omega
      by_cases hk1 : kd = 1
      · subst hk1
        have HFL := Lib.hid (flushA_length F ws lim dn)
        obtain ⟨K, hLK, hPP, hbk⟩ := HPR.out.prog [T, X] HAX.out.plain
        have HBK := Lib.hid hbk
        have HC := Lib.hid (po_flush_all w w8 K D gl n F ws lim dn hPP (by have := HWS.out; have := HLI.out; omega))
        have HLK := Lib.hid hLK
        clear hPP hbk hLK
        go_wp2_with fail
        refine HC.out.mono ?_
        rintro e wA ⟨rfl, hPA, hSA⟩
        have HPA := Lib.hid (HBK.out _ _ _ _ _ hPA hSA)
        have HAX := Lib.hid (HAX.out.stay hSA HLK.out)
        clear hPA hSA HC HBK HLK HPR cc1 cc5 cc6
        obtain ⟨_, cc1, _, _, _, cc5, cc6⟩ := act_at HAX.out.act
        obtain ⟨K, hLK, hPP, hbk⟩ := HPA.out.refd [T, X] HAX.out.plain
        have HBK := Lib.hid hbk
        have HC := Lib.hid (ro_flush_all w wA K E hl n F ws lim dn hPP (by have := HWS.out; have := HLI.out; omega))
        have HLK := Lib.hid hLK
        clear hPP hbk hLK
        go_wp2_with fail
        refine HC.out.mono ?_
        rintro e wB ⟨rfl, hPB, hSB⟩
        have HPB := Lib.hid (HBK.out _ _ _ _ _ hPB hSB)
        clear hPB hSB HC HBK HLK HPA HAX cc1 cc5 cc6
        generalize flushA F ws lim dn = Q at *
        obtain ⟨err, F', ws', lim', dn'⟩ := Q
        have HPB := Lib.hid (show PR w wB D gl n F' ws' lim' dn' E hl n F' ws' lim' dn' from HPB.out)
        have HWL := Lib.hid (show ws'.length ≤ i + 1 by have h : ws'.length ≤ ws.length := HFL.out; have := HWS.out; omega)
        clear HFL
        have HPB := Lib.hid HPB.out.drewd
        obtain ⟨vv, hrd⟩ := HPB.out.rd
        obtain ⟨av, cv, hvv⟩ : ∃ a c, vv = .slice a (ws').length c := by
          rcases hrd.wai.2 with ⟨hv, h0⟩ | ⟨g, c, cur, hv, _⟩
          · exact ⟨none, 0, by rw [hv, h0]⟩
          · exact ⟨_, c, hv⟩
        subst hvv
        obtain ⟨_, r1, _, r3⟩ := rd_at hrd.dev
        obtain ⟨K, _, hPP, _⟩ := HPB.out.prog [] (by simp)
        have HCW := Lib.hid (po_waits w _ _ D gl n _ _ _ _ hPP (by have := HWL.out; have := HLI.out; omega))
        have HCD := Lib.hid (po_down w _ _ D gl n _ _ _ _ hPP)
        have HSS := Lib.hid (show wB.drew.cell? ⟨E, 1, none⟩ = some (.slice av (ws').length cv) ∧ wB.drew.cell? ⟨E, 3, none⟩ = some (.bool dn') from ⟨r1, r3⟩)
        have hwI : ((ws').length : Int) ≤ 100 := by have := HWL.out; have := HLI.out; omega
        generalize hNN : (ws').length = NN at *
        have HNN := Lib.hid hNN
        clear hNN hrd hPP r1 r3
        go_upto_region 37 with fail
        try simp only [Act.put]
        refine wp_region_noPanic ?_
        refine wp_region_held_drew (S := fun W => W.cell? ⟨E, 1, none⟩ = some (.slice av NN cv) ∧ W.cell? ⟨E, 3, none⟩ = some (.bool dn')) (by kernel_rfl) HSS.out (fun hHeld => ?_)
        refine wpAnyH_take (i := 0) (oi := ⟨some 181, _, _, _, _, _⟩) (v := ?_) rfl (by kernel_rfl) (by decide +kernel) (by decide +kernel) (fun _ _ _ h => h) (Or.inl ⟨by rfl, ?_⟩) (by assumption) ?_
        rotate_left 1
        · (intro w' hSw; go_simp; try with_reducible rfl)
        try simp only [Act.put, List.setIfInBounds_toArray, List.set_cons_zero, List.set_cons_succ]
        refine wpAnyH_take (i := 2) (oi := ⟨some 183, _, _, _, _, _⟩) (v := ?_) rfl (by kernel_rfl) (by decide +kernel) (by decide +kernel) (fun _ _ _ h => h) (Or.inl ⟨by rfl, ?_⟩) (by assumption) ?_
        rotate_left 1
        · (intro w' hSw; go_simp; try with_reducible rfl)
        try simp only [Act.put, List.setIfInBounds_toArray, List.set_cons_zero, List.set_cons_succ]
        refine wpAnyH_take (i := 3) (oi := ⟨some 184, _, _, _, _, _⟩) (v := ?_) rfl (by kernel_rfl) (by decide +kernel) (by decide +kernel) (fun _ _ _ h => h) (Or.inl ⟨by rfl, ?_⟩) (by assumption) ?_
        rotate_left 1
        · (intro w' hSw; go_simp; try with_reducible rfl)
        try simp only [Act.put, List.setIfInBounds_toArray, List.set_cons_zero, List.set_cons_succ]
        refine wpAnyH_take (i := 4) (oi := ⟨some 185, _, _, _, _, _⟩) (v := ?_) rfl (by kernel_rfl) (by decide +kernel) (by decide +kernel) (fun _ _ _ h => h) (Or.inl ⟨by rfl, ?_⟩) (by assumption) ?_
        rotate_left 1
        · (intro w' hSw; go_simp; try with_reducible rfl)
        try simp only [Act.put, List.setIfInBounds_toArray, List.set_cons_zero, List.set_cons_succ]
        refine wpAnyH_take (i := 5) (oi := ⟨some 186, _, _, _, _, _⟩) (v := ?_) rfl (by kernel_rfl) (by decide +kernel) (by decide +kernel) (fun _ _ _ h => h) (Or.inl ⟨by rfl, ?_⟩) (by assumption) ?_
        rotate_left 1
        · (intro w' hSw; have hcell := hSw.1; clear hSw; go_simp; try with_reducible rfl)
        try simp only [Act.put, List.setIfInBounds_toArray, List.set_cons_zero, List.set_cons_succ]
        refine wpAnyH_take (i := 6) (oi := ⟨some 187, _, _, _, _, _⟩) (v := ?_) rfl (by kernel_rfl) (by decide +kernel) (by decide +kernel) (fun _ _ _ h => h) (Or.inl ⟨by rfl, ?_⟩) (by assumption) ?_
        rotate_left 1
        · (intro w' hSw; go_simp; try with_reducible rfl)
        try simp only [Act.put, List.setIfInBounds_toArray, List.set_cons_zero, List.set_cons_succ]
        refine wpAnyH_ready (rs := [1]) (by decide +kernel) (by simp) ?_
        refine AllReadyH.cons rfl (fun K hK => ?_) AllReadyH.nil
        go_simp
        go_at_call 30
        refine HCW.out.mono ?_
        rintro e wC ⟨rfl, rfl⟩
        go_wp2_with fail
        refine hK.out _ _ HSS.out (fun hHeld => ?_)
        clear hK K
        try simp only [Act.put, List.setIfInBounds_toArray, List.set_cons_zero, List.set_cons_succ]
        refine wpAnyH_take (i := 7) (oi := ⟨some 188, _, _, _, _, _⟩) (v := ?_) rfl (by kernel_rfl) (by decide +kernel) (by decide +kernel) (fun _ _ _ h => h) (Or.inl ⟨by rfl, ?_⟩) (by assumption) ?_
        rotate_left 1
        · (intro w' hSw; go_simp; try with_reducible rfl)
        try simp only [Act.put, List.setIfInBounds_toArray, List.set_cons_zero, List.set_cons_succ]
        refine wpAnyH_take (i := 8) (oi := ⟨some 189, _, _, _, _, _⟩) (v := ?_) rfl (by kernel_rfl) (by decide +kernel) (by decide +kernel) (fun _ _ _ h => h) (Or.inl ⟨by rfl, ?_⟩) (by assumption) ?_
        rotate_left 1
        · (intro w' hSw; go_simp; try with_reducible rfl)
        try simp only [Act.put, List.setIfInBounds_toArray, List.set_cons_zero, List.set_cons_succ]
        refine wpAnyH_take (i := 9) (oi := ⟨some 190, _, _, _, _, _⟩) (v := ?_) rfl (by kernel_rfl) (by decide +kernel) (by decide +kernel) (fun _ _ _ h => h) (Or.inl ⟨by rfl, ?_⟩) (by assumption) ?_
        rotate_left 1
        · (intro w' hSw; go_simp; try with_reducible rfl)
        try simp only [Act.put, List.setIfInBounds_toArray, List.set_cons_zero, List.set_cons_succ]
        refine wpAnyH_take (i := 11) (oi := ⟨some 192, _, _, _, _, _⟩) (v := ?_) rfl (by kernel_rfl) (by decide +kernel) (by decide +kernel) (fun _ _ _ h => h) (Or.inl ⟨by rfl, ?_⟩) (by assumption) ?_
        rotate_left 1
        · (intro w' hSw; go_simp; try with_reducible rfl)
        try simp only [Act.put, List.setIfInBounds_toArray, List.set_cons_zero, List.set_cons_succ]
        refine wpAnyH_take (i := 12) (oi := ⟨some 193, _, _, _, _, _⟩) (v := ?_) rfl (by kernel_rfl) (by decide +kernel) (by decide +kernel) (fun _ _ _ h => h) (Or.inl ⟨by rfl, ?_⟩) (by assumption) ?_
        rotate_left 1
        · (intro w' hSw; go_simp; try with_reducible rfl)
        try simp only [Act.put, List.setIfInBounds_toArray, List.set_cons_zero, List.set_cons_succ]
        refine wpAnyH_take (i := 13) (oi := ⟨some 194, _, _, _, _, _⟩) (v := ?_) rfl (by kernel_rfl) (by decide +kernel) (by decide +kernel) (fun _ _ _ h => h) (Or.inl ⟨by rfl, ?_⟩) (by assumption) ?_
        rotate_left 1
        · (intro w' hSw; go_simp; try with_reducible rfl)
        try simp only [Act.put, List.setIfInBounds_toArray, List.set_cons_zero, List.set_cons_succ]
        refine wpAnyH_take (i := 14) (oi := ⟨some 195, _, _, _, _, _⟩) (v := ?_) rfl (by kernel_rfl) (by decide +kernel) (by decide +kernel) (fun _ _ _ h => h) (Or.inl ⟨by rfl, ?_⟩) (by assumption) ?_
        rotate_left 1
        · (intro w' hSw; have hcell := hSw.2; clear hSw; go_simp; try with_reducible rfl)
        try simp only [Act.put, List.setIfInBounds_toArray, List.set_cons_zero, List.set_cons_succ]
        refine wpAnyH_ready (rs := [10]) (by decide +kernel) (by simp) ?_
        refine AllReadyH.cons rfl (fun K hK => ?_) AllReadyH.nil
        go_simp
        go_at_call 31
        refine HCD.out.mono ?_
        rintro e wC ⟨rfl, rfl⟩
        go_wp2_with fail
        refine hK.out _ _ HSS.out (fun hHeld => ?_)
        clear hK K
        try simp only [Act.put, List.setIfInBounds_toArray, List.set_cons_zero, List.set_cons_succ]
        refine wpAnyH_take (i := 15) (oi := ⟨some 196, _, _, _, _, _⟩) (v := ?_) rfl (by kernel_rfl) (by decide +kernel) (by decide +kernel) (fun _ _ _ h => h) (Or.inl ⟨by rfl, ?_⟩) (by assumption) ?_
        rotate_left 1
        · (intro w' hSw; go_simp; try with_reducible rfl)
        try simp only [Act.put, List.setIfInBounds_toArray, List.set_cons_zero, List.set_cons_succ]
        refine wpAnyH_take (i := 16) (oi := ⟨some 197, _, _, _, _, _⟩) (v := ?_) rfl (by kernel_rfl) (by decide +kernel) (by decide +kernel) (fun _ _ _ h => h) (Or.inl ⟨by rfl, ?_⟩) (by assumption) ?_
        rotate_left 1
        · (intro w' hSw; go_simp; try with_reducible rfl)
        try simp only [Act.put, List.setIfInBounds_toArray, List.set_cons_zero, List.set_cons_succ]
        clear hHeld
        refine wpAnyH_done (by decide +kernel) ?_ _
        refine NoPanic.normal ?_
        clear HSS HCW HCD hwI
        go_wp2_with fail
        go_roundw
        case rel => exact ⟨i + 1, by have := HLT.out; omega, by go_num, _, _, _, _, HPB.out, by rw [HNN.out]; exact HWL.out⟩
        case measure => simp [intOf]; have := HLT.out; omega
      have hkb1 : (kd == 1) = false := by simp [hk1]
      clear hk1
      by_cases hk2 : kd = 2
      · subst hk2
        obtain ⟨K, hLK, hPP, hbk⟩ := HPR.out.prog [T, X] HAX.out.plain
        have HBK := Lib.hid hbk
        have HC := Lib.hid (po_limit w w8 K D gl n F ws lim nn dn hPP HOK.out.nn1)
        have HLK := Lib.hid hLK
        clear hPP hbk hLK
        go_wp2_with fail
        refine HC.out.mono ?_
        rintro e wA ⟨rfl, hPA, hSA⟩
        have HPA := Lib.hid (HBK.out _ _ _ _ _ hPA hSA)
        have HAX := Lib.hid (HAX.out.stay hSA HLK.out)
        clear hPA hSA HC HBK HLK HPR cc1 cc5 cc6
        obtain ⟨_, cc1, _, _, _, cc5, cc6⟩ := act_at HAX.out.act
        obtain ⟨K, hLK, hPP, hbk⟩ := HPA.out.refd [T, X] HAX.out.plain
        have HBK := Lib.hid hbk
        have HC := Lib.hid (ro_limit w wA K E hl n F ws lim dn nn hPP HOK.out.nn1)
        have HLK := Lib.hid hLK
        clear hPP hbk hLK
        go_wp2_with fail
        refine HC.out.mono ?_
        rintro e wB ⟨rfl, hPB, hSB⟩
        have HPB := Lib.hid (HBK.out _ _ _ _ _ hPB hSB)
        clear hPB hSB HC HBK HLK HPA HAX cc1 cc5 cc6
        generalize (if nn < 0 then -1 else nn) = lim' at *
        have HWL := Lib.hid (show ws.length ≤ i + 1 by have := HWS.out; omega)
        have HPB := Lib.hid HPB.out.drewd
        obtain ⟨vv, hrd⟩ := HPB.out.rd
        obtain ⟨av, cv, hvv⟩ : ∃ a c, vv = .slice a (ws).length c := by
          rcases hrd.wai.2 with ⟨hv, h0⟩ | ⟨g, c, cur, hv, _⟩
          · exact ⟨none, 0, by rw [hv, h0]⟩
          · exact ⟨_, c, hv⟩
        subst hvv
        obtain ⟨_, r1, _, r3⟩ := rd_at hrd.dev
        obtain ⟨K, _, hPP, _⟩ := HPB.out.prog [] (by simp)
        have HCW := Lib.hid (po_waits w _ _ D gl n _ _ _ _ hPP (by have := HWL.out; have := HLI.out; omega))
        have HCD := Lib.hid (po_down w _ _ D gl n _ _ _ _ hPP)
        have HSS := Lib.hid (show wB.drew.cell? ⟨E, 1, none⟩ = some (.slice av (ws).length cv) ∧ wB.drew.cell? ⟨E, 3, none⟩ = some (.bool dn) from ⟨r1, r3⟩)
        have hwI : ((ws).length : Int) ≤ 100 := by have := HWL.out; have := HLI.out; omega
        generalize hNN : (ws).length = NN at *
        have HNN := Lib.hid hNN
        clear hNN hrd hPP r1 r3
        go_upto_region 37 with fail
        try simp only [Act.put]
        refine wp_region_noPanic ?_
        refine wp_region_held_drew (S := fun W => W.cell? ⟨E, 1, none⟩ = some (.slice av NN cv) ∧ W.cell? ⟨E, 3, none⟩ = some (.bool dn)) (by kernel_rfl) HSS.out (fun hHeld => ?_)
        refine wpAnyH_take (i := 0) (oi := ⟨some 181, _, _, _, _, _⟩) (v := ?_) rfl (by kernel_rfl) (by decide +kernel) (by decide +kernel) (fun _ _ _ h => h) (Or.inl ⟨by rfl, ?_⟩) (by assumption) ?_
        rotate_left 1
        · (intro w' hSw; go_simp; try with_reducible rfl)
        try simp only [Act.put, List.setIfInBounds_toArray, List.set_cons_zero, List.set_cons_succ]
        refine wpAnyH_take (i := 2) (oi := ⟨some 183, _, _, _, _, _⟩) (v := ?_) rfl (by kernel_rfl) (by decide +kernel) (by decide +kernel) (fun _ _ _ h => h) (Or.inl ⟨by rfl, ?_⟩) (by assumption) ?_
        rotate_left 1
        · (intro w' hSw; go_simp; try with_reducible rfl)
        try simp only [Act.put, List.setIfInBounds_toArray, List.set_cons_zero, List.set_cons_succ]
        refine wpAnyH_take (i := 3) (oi := ⟨some 184, _, _, _, _, _⟩) (v := ?_) rfl (by kernel_rfl) (by decide +kernel) (by decide +kernel) (fun _ _ _ h => h) (Or.inl ⟨by rfl, ?_⟩) (by assumption) ?_
        rotate_left 1
        · (intro w' hSw; go_simp; try with_reducible rfl)
        try simp only [Act.put, List.setIfInBounds_toArray, List.set_cons_zero, List.set_cons_succ]
        refine wpAnyH_take (i := 4) (oi := ⟨some 185, _, _, _, _, _⟩) (v := ?_) rfl (by kernel_rfl) (by decide +kernel) (by decide +kernel) (fun _ _ _ h => h) (Or.inl ⟨by rfl, ?_⟩) (by assumption) ?_
        rotate_left 1
        · (intro w' hSw; go_simp; try with_reducible rfl)
        try simp only [Act.put, List.setIfInBounds_toArray, List.set_cons_zero, List.set_cons_succ]
        refine wpAnyH_take (i := 5) (oi := ⟨some 186, _, _, _, _, _⟩) (v := ?_) rfl (by kernel_rfl) (by decide +kernel) (by decide +kernel) (fun _ _ _ h => h) (Or.inl ⟨by rfl, ?_⟩) (by assumption) ?_
        rotate_left 1
        · (intro w' hSw; have hcell := hSw.1; clear hSw; go_simp; try with_reducible rfl)
        try simp only [Act.put, List.setIfInBounds_toArray, List.set_cons_zero, List.set_cons_succ]
        refine wpAnyH_take (i := 6) (oi := ⟨some 187, _, _, _, _, _⟩) (v := ?_) rfl (by kernel_rfl) (by decide +kernel) (by decide +kernel) (fun _ _ _ h => h) (Or.inl ⟨by rfl, ?_⟩) (by assumption) ?_
        rotate_left 1
        · (intro w' hSw; go_simp; try with_reducible rfl)
        try simp only [Act.put, List.setIfInBounds_toArray, List.set_cons_zero, List.set_cons_succ]
        refine wpAnyH_ready (rs := [1]) (by decide +kernel) (by simp) ?_
        refine AllReadyH.cons rfl (fun K hK => ?_) AllReadyH.nil
        go_simp
        go_at_call 30
        refine HCW.out.mono ?_
        rintro e wC ⟨rfl, rfl⟩
        go_wp2_with fail
        refine hK.out _ _ HSS.out (fun hHeld => ?_)
        clear hK K
        try simp only [Act.put, List.setIfInBounds_toArray, List.set_cons_zero, List.set_cons_succ]
        refine wpAnyH_take (i := 7) (oi := ⟨some 188, _, _, _, _, _⟩) (v := ?_) rfl (by kernel_rfl) (by decide +kernel) (by decide +kernel) (fun _ _ _ h => h) (Or.inl ⟨by rfl, ?_⟩) (by assumption) ?_
        rotate_left 1
        · (intro w' hSw; go_simp; try with_reducible rfl)
        try simp only [Act.put, List.setIfInBounds_toArray, List.set_cons_zero, List.set_cons_succ]
        refine wpAnyH_take (i := 8) (oi := ⟨some 189, _, _, _, _, _⟩) (v := ?_) rfl (by kernel_rfl) (by decide +kernel) (by decide +kernel) (fun _ _ _ h => h) (Or.inl ⟨by rfl, ?_⟩) (by assumption) ?_
        rotate_left 1
        · (intro w' hSw; go_simp; try with_reducible rfl)
        try simp only [Act.put, List.setIfInBounds_toArray, List.set_cons_zero, List.set_cons_succ]
        refine wpAnyH_take (i := 9) (oi := ⟨some 190, _, _, _, _, _⟩) (v := ?_) rfl (by kernel_rfl) (by decide +kernel) (by decide +kernel) (fun _ _ _ h => h) (Or.inl ⟨by rfl, ?_⟩) (by assumption) ?_
        rotate_left 1
        · (intro w' hSw; go_simp; try with_reducible rfl)
        try simp only [Act.put, List.setIfInBounds_toArray, List.set_cons_zero, List.set_cons_succ]
        refine wpAnyH_take (i := 11) (oi := ⟨some 192, _, _, _, _, _⟩) (v := ?_) rfl (by kernel_rfl) (by decide +kernel) (by decide +kernel) (fun _ _ _ h => h) (Or.inl ⟨by rfl, ?_⟩) (by assumption) ?_
        rotate_left 1
        · (intro w' hSw; go_simp; try with_reducible rfl)
        try simp only [Act.put, List.setIfInBounds_toArray, List.set_cons_zero, List.set_cons_succ]
        refine wpAnyH_take (i := 12) (oi := ⟨some 193, _, _, _, _, _⟩) (v := ?_) rfl (by kernel_rfl) (by decide +kernel) (by decide +kernel) (fun _ _ _ h => h) (Or.inl ⟨by rfl, ?_⟩) (by assumption) ?_
        rotate_left 1
        · (intro w' hSw; go_simp; try with_reducible rfl)
        try simp only [Act.put, List.setIfInBounds_toArray, List.set_cons_zero, List.set_cons_succ]
        refine wpAnyH_take (i := 13) (oi := ⟨some 194, _, _, _, _, _⟩) (v := ?_) rfl (by kernel_rfl) (by decide +kernel) (by decide +kernel) (fun _ _ _ h => h) (Or.inl ⟨by rfl, ?_⟩) (by assumption) ?_
        rotate_left 1
        · (intro w' hSw; go_simp; try with_reducible rfl)
        try simp only [Act.put, List.setIfInBounds_toArray, List.set_cons_zero, List.set_cons_succ]
        refine wpAnyH_take (i := 14) (oi := ⟨some 195, _, _, _, _, _⟩) (v := ?_) rfl (by kernel_rfl) (by decide +kernel) (by decide +kernel) (fun _ _ _ h => h) (Or.inl ⟨by rfl, ?_⟩) (by assumption) ?_
        rotate_left 1
        · (intro w' hSw; have hcell := hSw.2; clear hSw; go_simp; try with_reducible rfl)
        try simp only [Act.put, List.setIfInBounds_toArray, List.set_cons_zero, List.set_cons_succ]
        refine wpAnyH_ready (rs := [10]) (by decide +kernel) (by simp) ?_
        refine AllReadyH.cons rfl (fun K hK => ?_) AllReadyH.nil
        go_simp
        go_at_call 31
        refine HCD.out.mono ?_
        rintro e wC ⟨rfl, rfl⟩
        go_wp2_with fail
        refine hK.out _ _ HSS.out (fun hHeld => ?_)
        clear hK K
        try simp only [Act.put, List.setIfInBounds_toArray, List.set_cons_zero, List.set_cons_succ]
        refine wpAnyH_take (i := 15) (oi := ⟨some 196, _, _, _, _, _⟩) (v := ?_) rfl (by kernel_rfl) (by decide +kernel) (by decide +kernel) (fun _ _ _ h => h) (Or.inl ⟨by rfl, ?_⟩) (by assumption) ?_
        rotate_left 1
        · (intro w' hSw; go_simp; try with_reducible rfl)
        try simp only [Act.put, List.setIfInBounds_toArray, List.set_cons_zero, List.set_cons_succ]
        refine wpAnyH_take (i := 16) (oi := ⟨some 197, _, _, _, _, _⟩) (v := ?_) rfl (by kernel_rfl) (by decide +kernel) (by decide +kernel) (fun _ _ _ h => h) (Or.inl ⟨by rfl, ?_⟩) (by assumption) ?_
        rotate_left 1
        · (intro w' hSw; go_simp; try with_reducible rfl)
        try simp only [Act.put, List.setIfInBounds_toArray, List.set_cons_zero, List.set_cons_succ]
        clear hHeld
        refine wpAnyH_done (by decide +kernel) ?_ _
        refine NoPanic.normal ?_
        clear HSS HCW HCD hwI
        go_wp2_with fail
        go_roundw
        case rel => exact ⟨i + 1, by have := HLT.out; omega, by go_num, _, _, _, _, HPB.out, by rw [HNN.out]; exact HWL.out⟩
        case measure => simp [intOf]; have := HLT.out; omega
      have hkb2 : (kd == 2) = false := by simp [hk2]
      clear hk2
      by_cases hk3 : kd = 3
      · subst hk3
        obtain ⟨K, hLK, hPP, hbk⟩ := HPR.out.prog [T, X] HAX.out.plain
        have HBK := Lib.hid hbk
        have HC := Lib.hid (po_crash w w8 K D gl n kp nn F ws lim dn hPP (by have := HWS.out; have := HLI.out; omega) HOK.out.kp)
        have HLK := Lib.hid hLK
        clear hPP hbk hLK
        go_wp2_with fail
        refine HC.out.mono ?_
        rintro e wA ⟨rfl, hPA, hSA⟩
        have HPA := Lib.hid (HBK.out _ _ _ _ _ hPA hSA)
        have HAX := Lib.hid (HAX.out.stay hSA HLK.out)
        clear hPA hSA HC HBK HLK HPR cc1 cc5 cc6
        obtain ⟨_, cc1, _, _, _, cc5, cc6⟩ := act_at HAX.out.act
        obtain ⟨K, hLK, hPP, hbk⟩ := HPA.out.refd [T, X] HAX.out.plain
        have HBK := Lib.hid hbk
        have HC := Lib.hid (ro_crash w wA K E hl n F ws lim dn kp nn hPP (by have := HWS.out; have := HLI.out; omega) HOK.out.kp)
        have HLK := Lib.hid hLK
        clear hPP hbk hLK
        go_wp2_with fail
        refine HC.out.mono ?_
        rintro e wB ⟨rfl, hPB, hSB⟩
        have HPB := Lib.hid (HBK.out _ _ _ _ _ hPB hSB)
        clear hPB hSB HC HBK HLK HPA HAX cc1 cc5 cc6
        generalize crashM kp nn F ws ws.length = F' at *
        have HWL := Lib.hid (show ([] : List (Nat × List (BitVec 8))).length ≤ i + 1 by simp)
        have HPB := Lib.hid HPB.out.drewd
        obtain ⟨vv, hrd⟩ := HPB.out.rd
        obtain ⟨av, cv, hvv⟩ : ∃ a c, vv = .slice a ([] : List (Nat × List (BitVec 8))).length c := by
          rcases hrd.wai.2 with ⟨hv, h0⟩ | ⟨g, c, cur, hv, _⟩
          · exact ⟨none, 0, by rw [hv, h0]⟩
          · exact ⟨_, c, hv⟩
        subst hvv
        obtain ⟨_, r1, _, r3⟩ := rd_at hrd.dev
        obtain ⟨K, _, hPP, _⟩ := HPB.out.prog [] (by simp)
        have HCW := Lib.hid (po_waits w _ _ D gl n _ _ _ _ hPP (by have := HWL.out; have := HLI.out; omega))
        have HCD := Lib.hid (po_down w _ _ D gl n _ _ _ _ hPP)
        have HSS := Lib.hid (show wB.drew.cell? ⟨E, 1, none⟩ = some (.slice av ([] : List (Nat × List (BitVec 8))).length cv) ∧ wB.drew.cell? ⟨E, 3, none⟩ = some (.bool false) from ⟨r1, r3⟩)
        have hwI : (([] : List (Nat × List (BitVec 8))).length : Int) ≤ 100 := by have := HWL.out; have := HLI.out; omega
        generalize hNN : ([] : List (Nat × List (BitVec 8))).length = NN at *
        have HNN := Lib.hid hNN
        clear hNN hrd hPP r1 r3
        go_upto_region 37 with fail
        try simp only [Act.put]
        refine wp_region_noPanic ?_
        refine wp_region_held_drew (S := fun W => W.cell? ⟨E, 1, none⟩ = some (.slice av NN cv) ∧ W.cell? ⟨E, 3, none⟩ = some (.bool false)) (by kernel_rfl) HSS.out (fun hHeld => ?_)
        refine wpAnyH_take (i := 0) (oi := ⟨some 181, _, _, _, _, _⟩) (v := ?_) rfl (by kernel_rfl) (by decide +kernel) (by decide +kernel) (fun _ _ _ h => h) (Or.inl ⟨by rfl, ?_⟩) (by assumption) ?_
        rotate_left 1
        · (intro w' hSw; go_simp; try with_reducible rfl)
        try simp only [Act.put, List.setIfInBounds_toArray, List.set_cons_zero, List.set_cons_succ]
        refine wpAnyH_take (i := 2) (oi := ⟨some 183, _, _, _, _, _⟩) (v := ?_) rfl (by kernel_rfl) (by decide +kernel) (by decide +kernel) (fun _ _ _ h => h) (Or.inl ⟨by rfl, ?_⟩) (by assumption) ?_
        rotate_left 1
        · (intro w' hSw; go_simp; try with_reducible rfl)
        try simp only [Act.put, List.setIfInBounds_toArray, List.set_cons_zero, List.set_cons_succ]
        refine wpAnyH_take (i := 3) (oi := ⟨some 184, _, _, _, _, _⟩) (v := ?_) rfl (by kernel_rfl) (by decide +kernel) (by decide +kernel) (fun _ _ _ h => h) (Or.inl ⟨by rfl, ?_⟩) (by assumption) ?_
        rotate_left 1
        · (intro w' hSw; go_simp; try with_reducible rfl)
        try simp only [Act.put, List.setIfInBounds_toArray, List.set_cons_zero, List.set_cons_succ]
        refine wpAnyH_take (i := 4) (oi := ⟨some 185, _, _, _, _, _⟩) (v := ?_) rfl (by kernel_rfl) (by decide +kernel) (by decide +kernel) (fun _ _ _ h => h) (Or.inl ⟨by rfl, ?_⟩) (by assumption) ?_
        rotate_left 1
        · (intro w' hSw; go_simp; try with_reducible rfl)
        try simp only [Act.put, List.setIfInBounds_toArray, List.set_cons_zero, List.set_cons_succ]
        refine wpAnyH_take (i := 5) (oi := ⟨some 186, _, _, _, _, _⟩) (v := ?_) rfl (by kernel_rfl) (by decide +kernel) (by decide +kernel) (fun _ _ _ h => h) (Or.inl ⟨by rfl, ?_⟩) (by assumption) ?_
        rotate_left 1
        · (intro w' hSw; have hcell := hSw.1; clear hSw; go_simp; try with_reducible rfl)
        try simp only [Act.put, List.setIfInBounds_toArray, List.set_cons_zero, List.set_cons_succ]
        refine wpAnyH_take (i := 6) (oi := ⟨some 187, _, _, _, _, _⟩) (v := ?_) rfl (by kernel_rfl) (by decide +kernel) (by decide +kernel) (fun _ _ _ h => h) (Or.inl ⟨by rfl, ?_⟩) (by assumption) ?_
        rotate_left 1
        · (intro w' hSw; go_simp; try with_reducible rfl)
        try simp only [Act.put, List.setIfInBounds_toArray, List.set_cons_zero, List.set_cons_succ]
        refine wpAnyH_ready (rs := [1]) (by decide +kernel) (by simp) ?_
        refine AllReadyH.cons rfl (fun K hK => ?_) AllReadyH.nil
        go_simp
        go_at_call 30
        refine HCW.out.mono ?_
        rintro e wC ⟨rfl, rfl⟩
        go_wp2_with fail
        refine hK.out _ _ HSS.out (fun hHeld => ?_)
        clear hK K
        try simp only [Act.put, List.setIfInBounds_toArray, List.set_cons_zero, List.set_cons_succ]
        refine wpAnyH_take (i := 7) (oi := ⟨some 188, _, _, _, _, _⟩) (v := ?_) rfl (by kernel_rfl) (by decide +kernel) (by decide +kernel) (fun _ _ _ h => h) (Or.inl ⟨by rfl, ?_⟩) (by assumption) ?_
        rotate_left 1
        · (intro w' hSw; go_simp; try with_reducible rfl)
        try simp only [Act.put, List.setIfInBounds_toArray, List.set_cons_zero, List.set_cons_succ]
        refine wpAnyH_take (i := 8) (oi := ⟨some 189, _, _, _, _, _⟩) (v := ?_) rfl (by kernel_rfl) (by decide +kernel) (by decide +kernel) (fun _ _ _ h => h) (Or.inl ⟨by rfl, ?_⟩) (by assumption) ?_
        rotate_left 1
        · (intro w' hSw; go_simp; try with_reducible rfl)
        try simp only [Act.put, List.setIfInBounds_toArray, List.set_cons_zero, List.set_cons_succ]
        refine wpAnyH_take (i := 9) (oi := ⟨some 190, _, _, _, _, _⟩) (v := ?_) rfl (by kernel_rfl) (by decide +kernel) (by decide +kernel) (fun _ _ _ h => h) (Or.inl ⟨by rfl, ?_⟩) (by assumption) ?_
        rotate_left 1
        · (intro w' hSw; go_simp; try with_reducible rfl)
        try simp only [Act.put, List.setIfInBounds_toArray, List.set_cons_zero, List.set_cons_succ]
        refine wpAnyH_take (i := 11) (oi := ⟨some 192, _, _, _, _, _⟩) (v := ?_) rfl (by kernel_rfl) (by decide +kernel) (by decide +kernel) (fun _ _ _ h => h) (Or.inl ⟨by rfl, ?_⟩) (by assumption) ?_
        rotate_left 1
        · (intro w' hSw; go_simp; try with_reducible rfl)
        try simp only [Act.put, List.setIfInBounds_toArray, List.set_cons_zero, List.set_cons_succ]
        refine wpAnyH_take (i := 12) (oi := ⟨some 193, _, _, _, _, _⟩) (v := ?_) rfl (by kernel_rfl) (by decide +kernel) (by decide +kernel) (fun _ _ _ h => h) (Or.inl ⟨by rfl, ?_⟩) (by assumption) ?_
        rotate_left 1
        · (intro w' hSw; go_simp; try with_reducible rfl)
        try simp only [Act.put, List.setIfInBounds_toArray, List.set_cons_zero, List.set_cons_succ]
        refine wpAnyH_take (i := 13) (oi := ⟨some 194, _, _, _, _, _⟩) (v := ?_) rfl (by kernel_rfl) (by decide +kernel) (by decide +kernel) (fun _ _ _ h => h) (Or.inl ⟨by rfl, ?_⟩) (by assumption) ?_
        rotate_left 1
        · (intro w' hSw; go_simp; try with_reducible rfl)
        try simp only [Act.put, List.setIfInBounds_toArray, List.set_cons_zero, List.set_cons_succ]
        refine wpAnyH_take (i := 14) (oi := ⟨some 195, _, _, _, _, _⟩) (v := ?_) rfl (by kernel_rfl) (by decide +kernel) (by decide +kernel) (fun _ _ _ h => h) (Or.inl ⟨by rfl, ?_⟩) (by assumption) ?_
        rotate_left 1
        · (intro w' hSw; have hcell := hSw.2; clear hSw; go_simp; try with_reducible rfl)
        try simp only [Act.put, List.setIfInBounds_toArray, List.set_cons_zero, List.set_cons_succ]
        refine wpAnyH_ready (rs := [10]) (by decide +kernel) (by simp) ?_
        refine AllReadyH.cons rfl (fun K hK => ?_) AllReadyH.nil
        go_simp
        go_at_call 31
        refine HCD.out.mono ?_
        rintro e wC ⟨rfl, rfl⟩
        go_wp2_with fail
        refine hK.out _ _ HSS.out (fun hHeld => ?_)
        clear hK K
        try simp only [Act.put, List.setIfInBounds_toArray, List.set_cons_zero, List.set_cons_succ]
        refine wpAnyH_take (i := 15) (oi := ⟨some 196, _, _, _, _, _⟩) (v := ?_) rfl (by kernel_rfl) (by decide +kernel) (by decide +kernel) (fun _ _ _ h => h) (Or.inl ⟨by rfl, ?_⟩) (by assumption) ?_
        rotate_left 1
        · (intro w' hSw; go_simp; try with_reducible rfl)
        try simp only [Act.put, List.setIfInBounds_toArray, List.set_cons_zero, List.set_cons_succ]
        refine wpAnyH_take (i := 16) (oi := ⟨some 197, _, _, _, _, _⟩) (v := ?_) rfl (by kernel_rfl) (by decide +kernel) (by decide +kernel) (fun _ _ _ h => h) (Or.inl ⟨by rfl, ?_⟩) (by assumption) ?_
        rotate_left 1
        · (intro w' hSw; go_simp; try with_reducible rfl)
        try simp only [Act.put, List.setIfInBounds_toArray, List.set_cons_zero, List.set_cons_succ]
        clear hHeld
        refine wpAnyH_done (by decide +kernel) ?_ _
        refine NoPanic.normal ?_
        clear HSS HCW HCD hwI
        go_wp2_with fail
        go_roundw
        case rel => exact ⟨i + 1, by have := HLT.out; omega, by go_num, _, _, _, _, HPB.out, by rw [HNN.out]; exact HWL.out⟩
        case measure => simp [intOf]; have := HLT.out; omega
      have hkb3 : (kd == 3) = false := by simp [hk3]
      clear hk3
      by_cases hk4 : kd = 4
      · subst hk4
        have HPR := Lib.hid HPR.out.drewd
        have HAX := Lib.hid HAX.out.drewd
        obtain ⟨K, hLK, hPP, hbk⟩ := HPR.out.prog [T, X] HAX.out.plain
        have HBK := Lib.hid hbk
        have HC := Lib.hid (po_poke_all w w8.drew K D gl n F ws lim dn adr X o lb lb SB hPP HOK.out.adr HAX.out.byt HSL.out HO.out)
        have HLK := Lib.hid hLK
        clear hPP hbk hLK
        have HSS := Lib.hid (show w8.cell? ⟨T, 1, none⟩ = some (.int .u32 (adr : Int)) from cc1)
        clear cc1 cc5 cc6
        go_upto_region 28 with fail
        try simp only [Act.put]
        refine wp_region_noPanic ?_
        refine wp_region_held_drew (S := fun W => W.cell? ⟨T, 1, none⟩ = some (.int .u32 (adr : Int))) (by kernel_rfl) HSS.out (fun hHeld => ?_)
        refine wpAnyH_take (i := 0) (oi := ⟨some 120, _, _, _, _, _⟩) (v := ?_) rfl (by kernel_rfl) (by decide +kernel) (by decide +kernel) (fun _ _ _ h => h) (Or.inl ⟨by rfl, ?_⟩) (by assumption) ?_
        rotate_left 1
        · (intro w' hSw; go_simp; try with_reducible rfl)
        try simp only [Act.put, List.setIfInBounds_toArray, List.set_cons_zero, List.set_cons_succ]
        refine wpAnyH_take (i := 1) (oi := ⟨some 121, _, _, _, _, _⟩) (v := ?_) rfl (by kernel_rfl) (by decide +kernel) (by decide +kernel) (fun _ _ _ h => h) (Or.inl ⟨by rfl, ?_⟩) (by assumption) ?_
        rotate_left 1
        · (intro w' hSw; go_simp; try with_reducible rfl)
        try simp only [Act.put, List.setIfInBounds_toArray, List.set_cons_zero, List.set_cons_succ]
        refine wpAnyH_take (i := 2) (oi := ⟨some 122, _, _, _, _, _⟩) (v := ?_) rfl (by kernel_rfl) (by decide +kernel) (by decide +kernel) (fun _ _ _ h => h) (Or.inl ⟨by rfl, ?_⟩) (by assumption) ?_
        rotate_left 1
        · (intro w' hSw; go_simp; try with_reducible rfl)
        try simp only [Act.put, List.setIfInBounds_toArray, List.set_cons_zero, List.set_cons_succ]
        refine wpAnyH_take (i := 3) (oi := ⟨some 123, _, _, _, _, _⟩) (v := ?_) rfl (by kernel_rfl) (by decide +kernel) (by decide +kernel) (fun _ _ _ h => h) (Or.inl ⟨by rfl, ?_⟩) (by assumption) ?_
        rotate_left 1
        · (intro w' hSw; go_simp; try with_reducible rfl)
        try simp only [Act.put, List.setIfInBounds_toArray, List.set_cons_zero, List.set_cons_succ]
        refine wpAnyH_take (i := 5) (oi := ⟨some 125, _, _, _, _, _⟩) (v := ?_) rfl (by kernel_rfl) (by decide +kernel) (by decide +kernel) (fun _ _ _ h => h) (Or.inl ⟨by rfl, ?_⟩) (by assumption) ?_
        rotate_left 1
        · (intro w' hSw; go_simp; try with_reducible rfl)
        try simp only [Act.put, List.setIfInBounds_toArray, List.set_cons_zero, List.set_cons_succ]
        refine wpAnyH_take (i := 6) (oi := ⟨some 126, _, _, _, _, _⟩) (v := ?_) rfl (by kernel_rfl) (by decide +kernel) (by decide +kernel) (fun _ _ _ h => h) (Or.inl ⟨by rfl, ?_⟩) (by assumption) ?_
        rotate_left 1
        · (intro w' hSw; go_simp; try with_reducible rfl)
        try simp only [Act.put, List.setIfInBounds_toArray, List.set_cons_zero, List.set_cons_succ]
        refine wpAnyH_take (i := 7) (oi := ⟨some 127, _, _, _, _, _⟩) (v := ?_) rfl (by kernel_rfl) (by decide +kernel) (by decide +kernel) (fun _ _ _ h => h) (Or.inl ⟨by rfl, ?_⟩) (by assumption) ?_
        rotate_left 1
        · (intro w' hSw; go_simp; try with_reducible rfl)
        try simp only [Act.put, List.setIfInBounds_toArray, List.set_cons_zero, List.set_cons_succ]
        refine wpAnyH_take (i := 8) (oi := ⟨some 128, _, _, _, _, _⟩) (v := ?_) rfl (by kernel_rfl) (by decide +kernel) (by decide +kernel) (fun _ _ _ h => h) (Or.inl ⟨by rfl, ?_⟩) (by assumption) ?_
        rotate_left 1
        · (intro w' hSw; go_simp; try with_reducible rfl)
        try simp only [Act.put, List.setIfInBounds_toArray, List.set_cons_zero, List.set_cons_succ]
        clear hHeld
        refine wpAnyH_ready (rs := [4]) (by decide +kernel) (by simp) ?_
        refine AllReadyH.cons rfl (fun K hK => ?_) AllReadyH.nil
        go_simp
        go_at_call 21
        refine HC.out.mono ?_
        rintro e wA ⟨rfl, hPA, hSA⟩
        have HPA := Lib.hid (HBK.out _ _ _ _ _ hPA hSA)
        have HAX := Lib.hid (HAX.out.stay hSA HLK.out)
        clear hPA hSA HC HBK HLK HPR HSS
        go_wp2_with fail
        refine hK.out _ _ ((act_at HAX.out.act).2.1) (fun hHeld => ?_)
        clear hK K hHeld
        try simp only [Act.put, List.setIfInBounds_toArray, List.set_cons_zero, List.set_cons_succ]
        obtain ⟨K2, hLK, hPP, hbk⟩ := HPA.out.refd [T, X] HAX.out.plain
        have HBK := Lib.hid hbk
        have HC := Lib.hid (ro_poke_all w wA K2 E hl n F ws lim dn adr X o lb lb SB hPP HOK.out.adr HAX.out.byt HSL.out HO.out)
        have HLK := Lib.hid hLK
        clear hPP hbk hLK
        refine wpAnyH_ready (rs := [9]) (by decide +kernel) (by simp) ?_
        refine AllReadyH.cons rfl (fun K hK => ?_) AllReadyH.nil
        go_simp
        go_at_call 22
        refine HC.out.mono ?_
        rintro e wB ⟨rfl, hPB, hSB⟩
        have HPB := Lib.hid (HBK.out _ _ _ _ _ hPB hSB)
        have HAX2 := Lib.hid (HAX.out.stay hSB HLK.out)
        clear hPB hSB HC HBK HLK HPA HAX
        go_wp2_with fail
        refine hK.out _ _ ((act_at HAX2.out.act).2.1) (fun hHeld => ?_)
        clear hK K HAX2
        try simp only [Act.put, List.setIfInBounds_toArray, List.set_cons_zero, List.set_cons_succ]
        refine wpAnyH_take (i := 10) (oi := ⟨some 130, _, _, _, _, _⟩) (v := ?_) rfl (by kernel_rfl) (by decide +kernel) (by decide +kernel) (fun _ _ _ h => h) (Or.inl ⟨by rfl, ?_⟩) (by assumption) ?_
        rotate_left 1
        · (intro w' hSw; go_simp; try with_reducible rfl)
        try simp only [Act.put, List.setIfInBounds_toArray, List.set_cons_zero, List.set_cons_succ]
        clear hHeld
        refine wpAnyH_done (by decide +kernel) ?_ _
        refine NoPanic.normal ?_
        generalize pokeA (decide (adr < n ∧ lb = 512)) adr F SB = Q at *
        obtain ⟨err, F'⟩ := Q
        have HPB := Lib.hid (show PR w wB D gl n F' ws lim dn E hl n F' ws lim dn from HPB.out)
        have HWL := Lib.hid (show ws.length ≤ i + 1 by have := HWS.out; omega)
        have HPB := Lib.hid HPB.out.drewd
        obtain ⟨vv, hrd⟩ := HPB.out.rd
        obtain ⟨av, cv, hvv⟩ : ∃ a c, vv = .slice a (ws).length c := by
          rcases hrd.wai.2 with ⟨hv, h0⟩ | ⟨g, c, cur, hv, _⟩
          · exact ⟨none, 0, by rw [hv, h0]⟩
          · exact ⟨_, c, hv⟩
        subst hvv
        obtain ⟨_, r1, _, r3⟩ := rd_at hrd.dev
        obtain ⟨K, _, hPP, _⟩ := HPB.out.prog [] (by simp)
        have HCW := Lib.hid (po_waits w _ _ D gl n _ _ _ _ hPP (by have := HWL.out; have := HLI.out; omega))
        have HCD := Lib.hid (po_down w _ _ D gl n _ _ _ _ hPP)
        have HSS := Lib.hid (show wB.drew.cell? ⟨E, 1, none⟩ = some (.slice av (ws).length cv) ∧ wB.drew.cell? ⟨E, 3, none⟩ = some (.bool dn) from ⟨r1, r3⟩)
        have hwI : ((ws).length : Int) ≤ 100 := by have := HWL.out; have := HLI.out; omega
        generalize hNN : (ws).length = NN at *
        have HNN := Lib.hid hNN
        clear hNN hrd hPP r1 r3
        go_upto_region 37 with fail
        try simp only [Act.put]
        refine wp_region_noPanic ?_
        refine wp_region_held_drew (S := fun W => W.cell? ⟨E, 1, none⟩ = some (.slice av NN cv) ∧ W.cell? ⟨E, 3, none⟩ = some (.bool dn)) (by kernel_rfl) HSS.out (fun hHeld => ?_)
        refine wpAnyH_take (i := 0) (oi := ⟨some 181, _, _, _, _, _⟩) (v := ?_) rfl (by kernel_rfl) (by decide +kernel) (by decide +kernel) (fun _ _ _ h => h) (Or.inl ⟨by rfl, ?_⟩) (by assumption) ?_
        rotate_left 1
        · (intro w' hSw; go_simp; try with_reducible rfl)
        try simp only [Act.put, List.setIfInBounds_toArray, List.set_cons_zero, List.set_cons_succ]
        refine wpAnyH_take (i := 2) (oi := ⟨some 183, _, _, _, _, _⟩) (v := ?_) rfl (by kernel_rfl) (by decide +kernel) (by decide +kernel) (fun _ _ _ h => h) (Or.inl ⟨by rfl, ?_⟩) (by assumption) ?_
        rotate_left 1
        · (intro w' hSw; go_simp; try with_reducible rfl)
        try simp only [Act.put, List.setIfInBounds_toArray, List.set_cons_zero, List.set_cons_succ]
        refine wpAnyH_take (i := 3) (oi := ⟨some 184, _, _, _, _, _⟩) (v := ?_) rfl (by kernel_rfl) (by decide +kernel) (by decide +kernel) (fun _ _ _ h => h) (Or.inl ⟨by rfl, ?_⟩) (by assumption) ?_
        rotate_left 1
        · (intro w' hSw; go_simp; try with_reducible rfl)
        try simp only [Act.put, List.setIfInBounds_toArray, List.set_cons_zero, List.set_cons_succ]
        refine wpAnyH_take (i := 4) (oi := ⟨some 185, _, _, _, _, _⟩) (v := ?_) rfl (by kernel_rfl) (by decide +kernel) (by decide +kernel) (fun _ _ _ h => h) (Or.inl ⟨by rfl, ?_⟩) (by assumption) ?_
        rotate_left 1
        · (intro w' hSw; go_simp; try with_reducible rfl)
        try simp only [Act.put, List.setIfInBounds_toArray, List.set_cons_zero, List.set_cons_succ]
        refine wpAnyH_take (i := 5) (oi := ⟨some 186, _, _, _, _, _⟩) (v := ?_) rfl (by kernel_rfl) (by decide +kernel) (by decide +kernel) (fun _ _ _ h => h) (Or.inl ⟨by rfl, ?_⟩) (by assumption) ?_
        rotate_left 1
        · (intro w' hSw; have hcell := hSw.1; clear hSw; go_simp; try with_reducible rfl)
        try simp only [Act.put, List.setIfInBounds_toArray, List.set_cons_zero, List.set_cons_succ]
        refine wpAnyH_take (i := 6) (oi := ⟨some 187, _, _, _, _, _⟩) (v := ?_) rfl (by kernel_rfl) (by decide +kernel) (by decide +kernel) (fun _ _ _ h => h) (Or.inl ⟨by rfl, ?_⟩) (by assumption) ?_
        rotate_left 1
        · (intro w' hSw; go_simp; try with_reducible rfl)
        try simp only [Act.put, List.setIfInBounds_toArray, List.set_cons_zero, List.set_cons_succ]
        refine wpAnyH_ready (rs := [1]) (by decide +kernel) (by simp) ?_
        refine AllReadyH.cons rfl (fun K hK => ?_) AllReadyH.nil
        go_simp
        go_at_call 30
        refine HCW.out.mono ?_
        rintro e wC ⟨rfl, rfl⟩
        go_wp2_with fail
        refine hK.out _ _ HSS.out (fun hHeld => ?_)
        clear hK K
        try simp only [Act.put, List.setIfInBounds_toArray, List.set_cons_zero, List.set_cons_succ]
        refine wpAnyH_take (i := 7) (oi := ⟨some 188, _, _, _, _, _⟩) (v := ?_) rfl (by kernel_rfl) (by decide +kernel) (by decide +kernel) (fun _ _ _ h => h) (Or.inl ⟨by rfl, ?_⟩) (by assumption) ?_
        rotate_left 1
        · (intro w' hSw; go_simp; try with_reducible rfl)
        try simp only [Act.put, List.setIfInBounds_toArray, List.set_cons_zero, List.set_cons_succ]
        refine wpAnyH_take (i := 8) (oi := ⟨some 189, _, _, _, _, _⟩) (v := ?_) rfl (by kernel_rfl) (by decide +kernel) (by decide +kernel) (fun _ _ _ h => h) (Or.inl ⟨by rfl, ?_⟩) (by assumption) ?_
        rotate_left 1
        · (intro w' hSw; go_simp; try with_reducible rfl)
        try simp only [Act.put, List.setIfInBounds_toArray, List.set_cons_zero, List.set_cons_succ]
        refine wpAnyH_take (i := 9) (oi := ⟨some 190, _, _, _, _, _⟩) (v := ?_) rfl (by kernel_rfl) (by decide +kernel) (by decide +kernel) (fun _ _ _ h => h) (Or.inl ⟨by rfl, ?_⟩) (by assumption) ?_
        rotate_left 1
        · (intro w' hSw; go_simp; try with_reducible rfl)
        try simp only [Act.put, List.setIfInBounds_toArray, List.set_cons_zero, List.set_cons_succ]
        refine wpAnyH_take (i := 11) (oi := ⟨some 192, _, _, _, _, _⟩) (v := ?_) rfl (by kernel_rfl) (by decide +kernel) (by decide +kernel) (fun _ _ _ h => h) (Or.inl ⟨by rfl, ?_⟩) (by assumption) ?_
        rotate_left 1
        · (intro w' hSw; go_simp; try with_reducible rfl)
        try simp only [Act.put, List.setIfInBounds_toArray, List.set_cons_zero, List.set_cons_succ]
        refine wpAnyH_take (i := 12) (oi := ⟨some 193, _, _, _, _, _⟩) (v := ?_) rfl (by kernel_rfl) (by decide +kernel) (by decide +kernel) (fun _ _ _ h => h) (Or.inl ⟨by rfl, ?_⟩) (by assumption) ?_
        rotate_left 1
        · (intro w' hSw; go_simp; try with_reducible rfl)
        try simp only [Act.put, List.setIfInBounds_toArray, List.set_cons_zero, List.set_cons_succ]
        refine wpAnyH_take (i := 13) (oi := ⟨some 194, _, _, _, _, _⟩) (v := ?_) rfl (by kernel_rfl) (by decide +kernel) (by decide +kernel) (fun _ _ _ h => h) (Or.inl ⟨by rfl, ?_⟩) (by assumption) ?_
        rotate_left 1
        · (intro w' hSw; go_simp; try with_reducible rfl)
        try simp only [Act.put, List.setIfInBounds_toArray, List.set_cons_zero, List.set_cons_succ]
        refine wpAnyH_take (i := 14) (oi := ⟨some 195, _, _, _, _, _⟩) (v := ?_) rfl (by kernel_rfl) (by decide +kernel) (by decide +kernel) (fun _ _ _ h => h) (Or.inl ⟨by rfl, ?_⟩) (by assumption) ?_
        rotate_left 1
        · (intro w' hSw; have hcell := hSw.2; clear hSw; go_simp; try with_reducible rfl)
        try simp only [Act.put, List.setIfInBounds_toArray, List.set_cons_zero, List.set_cons_succ]
        refine wpAnyH_ready (rs := [10]) (by decide +kernel) (by simp) ?_
        refine AllReadyH.cons rfl (fun K hK => ?_) AllReadyH.nil
        go_simp
        go_at_call 31
        refine HCD.out.mono ?_
        rintro e wC ⟨rfl, rfl⟩
        go_wp2_with fail
        refine hK.out _ _ HSS.out (fun hHeld => ?_)
        clear hK K
        try simp only [Act.put, List.setIfInBounds_toArray, List.set_cons_zero, List.set_cons_succ]
        refine wpAnyH_take (i := 15) (oi := ⟨some 196, _, _, _, _, _⟩) (v := ?_) rfl (by kernel_rfl) (by decide +kernel) (by decide +kernel) (fun _ _ _ h => h) (Or.inl ⟨by rfl, ?_⟩) (by assumption) ?_
        rotate_left 1
        · (intro w' hSw; go_simp; try with_reducible rfl)
        try simp only [Act.put, List.setIfInBounds_toArray, List.set_cons_zero, List.set_cons_succ]
        refine wpAnyH_take (i := 16) (oi := ⟨some 197, _, _, _, _, _⟩) (v := ?_) rfl (by kernel_rfl) (by decide +kernel) (by decide +kernel) (fun _ _ _ h => h) (Or.inl ⟨by rfl, ?_⟩) (by assumption) ?_
        rotate_left 1
        · (intro w' hSw; go_simp; try with_reducible rfl)
        try simp only [Act.put, List.setIfInBounds_toArray, List.set_cons_zero, List.set_cons_succ]
        clear hHeld
        refine wpAnyH_done (by decide +kernel) ?_ _
        refine NoPanic.normal ?_
        clear HSS HCW HCD hwI
        go_wp2_with fail
        go_roundw
        case rel => exact ⟨i + 1, by have := HLT.out; omega, by go_num, _, _, _, _, HPB.out, by rw [HNN.out]; exact HWL.out⟩
        case measure => simp [intOf]; have := HLT.out; omega
      have hkb4 : (kd == 4) = false := by simp [hk4]
      clear hk4
      by_cases hk5 : kd = 5
      · subst hk5
        have HPR0 := HPR
        have HAX0 := HAX
        clear HPR HAX
        obtain ⟨e2, he2⟩ : ∃ e2 : Int, (if adr < n then (0 : Int) else 2) = e2 := ⟨_, rfl⟩
        obtain ⟨L2, hL2⟩ : ∃ L2, (if adr < n then secY F adr else []) = L2 := ⟨_, rfl⟩
        obtain ⟨⟨L1, e1⟩, hQ⟩ : ∃ Q, readA n adr F ws dn = Q := ⟨_, rfl⟩
        have HE2 := Lib.hid he2
        have HL2 := Lib.hid hL2
        have HQ := Lib.hid hQ
        clear he2 hL2 hQ
        obtain ⟨K, _, hPP, _⟩ := HPR0.out.prog [] (by simp)
        have HC := Lib.hid (by have q := po_read_all w w8 K D gl n F ws lim dn adr hPP HOK.out.adr; rw [HQ.out] at q; exact q)
        clear hPP
        go_wp2_with fail
        refine HC.out.mono ?_
        rintro e wk1 ⟨v1, rfl, hb1, hw1⟩
        have HPR1 := Lib.hid (HPR0.out.below hw1)
        have HAX1 := Lib.hid (HAX0.out.below hw1)
        have HBS1_1 := Lib.hid hb1
        clear cc1 cc5 cc6 hb1 hw1 HC HPR0 HAX0
        obtain ⟨_, cc1, _, _, _, cc5, cc6⟩ := act_at HAX1.out.act
        obtain ⟨K, _, hPP, _⟩ := HPR1.out.refd [] (by simp)
        have HC := Lib.hid (by have q := ro_read_all w wk1 K E hl n F ws lim dn adr hPP HOK.out.adr (by have := HWS.out; have := HLI.out; omega); rw [HQ.out] at q; exact q)
        clear hPP
        go_wp2_with fail
        refine HC.out.mono ?_
        rintro e wk2 ⟨v2, rfl, hb2, hw2⟩
        have HPR2 := Lib.hid (HPR1.out.below hw2)
        have HAX2 := Lib.hid (HAX1.out.below hw2)
        have HBS1_2 := Lib.hid (HBS1_1.out.kept hw2)
        have HBS2_2 := Lib.hid hb2
        clear cc1 cc5 cc6 hb2 hw2 HC HPR1 HAX1 HBS1_1
        obtain ⟨_, cc1, _, _, _, cc5, cc6⟩ := act_at HAX2.out.act
        obtain ⟨K, _, hPP, _⟩ := HPR2.out.prog [] (by simp)
        have HC := Lib.hid (by have q := po_peek_all w wk2 K D gl n F ws lim dn adr hPP HOK.out.adr; rw [HE2.out, HL2.out] at q; exact q)
        clear hPP
        go_wp2_with fail
        refine HC.out.mono ?_
        rintro e wk3 ⟨v3, rfl, hb3, hw3⟩
        have HPR3 := Lib.hid (HPR2.out.below hw3)
        have HAX3 := Lib.hid (HAX2.out.below hw3)
        have HBS1_3 := Lib.hid (HBS1_2.out.kept hw3)
        have HBS2_3 := Lib.hid (HBS2_2.out.kept hw3)
        have HBS3_3 := Lib.hid hb3
        clear cc1 cc5 cc6 hb3 hw3 HC HPR2 HAX2 HBS1_2 HBS2_2
        obtain ⟨_, cc1, _, _, _, cc5, cc6⟩ := act_at HAX3.out.act
        obtain ⟨K, _, hPP, _⟩ := HPR3.out.refd [] (by simp)
        have HC := Lib.hid (by have q := ro_peek_all w wk3 K E hl n F ws lim dn adr hPP HOK.out.adr; rw [HE2.out, HL2.out] at q; exact q)
        clear hPP
        go_wp2_with fail
        refine HC.out.mono ?_
        rintro e wk4 ⟨v4, rfl, hb4, hw4⟩
        have HPR4 := Lib.hid (HPR3.out.below hw4)
        have HAX4 := Lib.hid (HAX3.out.below hw4)
        have HBS1_4 := Lib.hid (HBS1_3.out.kept hw4)
        have HBS2_4 := Lib.hid (HBS2_3.out.kept hw4)
        have HBS3_4 := Lib.hid (HBS3_3.out.kept hw4)
        have HBS4_4 := Lib.hid hb4
        clear cc1 cc5 cc6 hb4 hw4 HC HPR3 HAX3 HBS1_3 HBS2_3 HBS3_3
        obtain ⟨_, cc1, _, _, _, cc5, cc6⟩ := act_at HAX4.out.act
        have HSA := Lib.hid (same_eq wk4 _ _ _ HBS1_4.out HBS2_4.out)
        have HSB := Lib.hid (same_eq wk4 _ _ _ HBS3_4.out HBS4_4.out)
        have HPB := HPR4
        clear HPR4 HBS1_4 HBS2_4 HBS3_4 HBS4_4 HAX4 cc1 cc5 cc6
        go_wp2_with fail
        refine HSA.out.mono ?_
        rintro e wl ⟨rfl, rfl⟩
        go_wp2_with fail
        refine HSB.out.mono ?_
        rintro e wB ⟨rfl, rfl⟩
        clear HSA HSB
        have HWL := Lib.hid (show ws.length ≤ i + 1 by have := HWS.out; omega)
        have HPB := Lib.hid HPB.out.drewd
        obtain ⟨vv, hrd⟩ := HPB.out.rd
        obtain ⟨av, cv, hvv⟩ : ∃ a c, vv = .slice a (ws).length c := by
          rcases hrd.wai.2 with ⟨hv, h0⟩ | ⟨g, c, cur, hv, _⟩
          · exact ⟨none, 0, by rw [hv, h0]⟩
          · exact ⟨_, c, hv⟩
        subst hvv
        obtain ⟨_, r1, _, r3⟩ := rd_at hrd.dev
        obtain ⟨K, _, hPP, _⟩ := HPB.out.prog [] (by simp)
        have HCW := Lib.hid (po_waits w _ _ D gl n _ _ _ _ hPP (by have := HWL.out; have := HLI.out; omega))
        have HCD := Lib.hid (po_down w _ _ D gl n _ _ _ _ hPP)
        have HSS := Lib.hid (show wB.drew.cell? ⟨E, 1, none⟩ = some (.slice av (ws).length cv) ∧ wB.drew.cell? ⟨E, 3, none⟩ = some (.bool dn) from ⟨r1, r3⟩)
        have hwI : ((ws).length : Int) ≤ 100 := by have := HWL.out; have := HLI.out; omega
        generalize hNN : (ws).length = NN at *
        have HNN := Lib.hid hNN
        clear hNN hrd hPP r1 r3
        go_upto_region 37 with fail
        try simp only [Act.put]
        refine wp_region_noPanic ?_
        refine wp_region_held_drew (S := fun W => W.cell? ⟨E, 1, none⟩ = some (.slice av NN cv) ∧ W.cell? ⟨E, 3, none⟩ = some (.bool dn)) (by kernel_rfl) HSS.out (fun hHeld => ?_)
        refine wpAnyH_take (i := 0) (oi := ⟨some 181, _, _, _, _, _⟩) (v := ?_) rfl (by kernel_rfl) (by decide +kernel) (by decide +kernel) (fun _ _ _ h => h) (Or.inl ⟨by rfl, ?_⟩) (by assumption) ?_
        rotate_left 1
        · (intro w' hSw; go_simp; try with_reducible rfl)
        try simp only [Act.put, List.setIfInBounds_toArray, List.set_cons_zero, List.set_cons_succ]
        refine wpAnyH_take (i := 2) (oi := ⟨some 183, _, _, _, _, _⟩) (v := ?_) rfl (by kernel_rfl) (by decide +kernel) (by decide +kernel) (fun _ _ _ h => h) (Or.inl ⟨by rfl, ?_⟩) (by assumption) ?_
        rotate_left 1
        · (intro w' hSw; go_simp; try with_reducible rfl)
        try simp only [Act.put, List.setIfInBounds_toArray, List.set_cons_zero, List.set_cons_succ]
        refine wpAnyH_take (i := 3) (oi := ⟨some 184, _, _, _, _, _⟩) (v := ?_) rfl (by kernel_rfl) (by decide +kernel) (by decide +kernel) (fun _ _ _ h => h) (Or.inl ⟨by rfl, ?_⟩) (by assumption) ?_
        rotate_left 1
        · (intro w' hSw; go_simp; try with_reducible rfl)
        try simp only [Act.put, List.setIfInBounds_toArray, List.set_cons_zero, List.set_cons_succ]
        refine wpAnyH_take (i := 4) (oi := ⟨some 185, _, _, _, _, _⟩) (v := ?_) rfl (by kernel_rfl) (by decide +kernel) (by decide +kernel) (fun _ _ _ h => h) (Or.inl ⟨by rfl, ?_⟩) (by assumption) ?_
        rotate_left 1
        · (intro w' hSw; go_simp; try with_reducible rfl)
        try simp only [Act.put, List.setIfInBounds_toArray, List.set_cons_zero, List.set_cons_succ]
        refine wpAnyH_take (i := 5) (oi := ⟨some 186, _, _, _, _, _⟩) (v := ?_) rfl (by kernel_rfl) (by decide +kernel) (by decide +kernel) (fun _ _ _ h => h) (Or.inl ⟨by rfl, ?_⟩) (by assumption) ?_
        rotate_left 1
        · (intro w' hSw; have hcell := hSw.1; clear hSw; go_simp; try with_reducible rfl)
        try simp only [Act.put, List.setIfInBounds_toArray, List.set_cons_zero, List.set_cons_succ]
        refine wpAnyH_take (i := 6) (oi := ⟨some 187, _, _, _, _, _⟩) (v := ?_) rfl (by kernel_rfl) (by decide +kernel) (by decide +kernel) (fun _ _ _ h => h) (Or.inl ⟨by rfl, ?_⟩) (by assumption) ?_
        rotate_left 1
        · (intro w' hSw; go_simp; try with_reducible rfl)
        try simp only [Act.put, List.setIfInBounds_toArray, List.set_cons_zero, List.set_cons_succ]
        refine wpAnyH_ready (rs := [1]) (by decide +kernel) (by simp) ?_
        refine AllReadyH.cons rfl (fun K hK => ?_) AllReadyH.nil
        go_simp
        go_at_call 30
        refine HCW.out.mono ?_
        rintro e wC ⟨rfl, rfl⟩
        go_wp2_with fail
        refine hK.out _ _ HSS.out (fun hHeld => ?_)
        clear hK K
        try simp only [Act.put, List.setIfInBounds_toArray, List.set_cons_zero, List.set_cons_succ]
        refine wpAnyH_take (i := 7) (oi := ⟨some 188, _, _, _, _, _⟩) (v := ?_) rfl (by kernel_rfl) (by decide +kernel) (by decide +kernel) (fun _ _ _ h => h) (Or.inl ⟨by rfl, ?_⟩) (by assumption) ?_
        rotate_left 1
        · (intro w' hSw; go_simp; try with_reducible rfl)
        try simp only [Act.put, List.setIfInBounds_toArray, List.set_cons_zero, List.set_cons_succ]
        refine wpAnyH_take (i := 8) (oi := ⟨some 189, _, _, _, _, _⟩) (v := ?_) rfl (by kernel_rfl) (by decide +kernel) (by decide +kernel) (fun _ _ _ h => h) (Or.inl ⟨by rfl, ?_⟩) (by assumption) ?_
        rotate_left 1
        · (intro w' hSw; go_simp; try with_reducible rfl)
        try simp only [Act.put, List.setIfInBounds_toArray, List.set_cons_zero, List.set_cons_succ]
        refine wpAnyH_take (i := 9) (oi := ⟨some 190, _, _, _, _, _⟩) (v := ?_) rfl (by kernel_rfl) (by decide +kernel) (by decide +kernel) (fun _ _ _ h => h) (Or.inl ⟨by rfl, ?_⟩) (by assumption) ?_
        rotate_left 1
        · (intro w' hSw; go_simp; try with_reducible rfl)
        try simp only [Act.put, List.setIfInBounds_toArray, List.set_cons_zero, List.set_cons_succ]
        refine wpAnyH_take (i := 11) (oi := ⟨some 192, _, _, _, _, _⟩) (v := ?_) rfl (by kernel_rfl) (by decide +kernel) (by decide +kernel) (fun _ _ _ h => h) (Or.inl ⟨by rfl, ?_⟩) (by assumption) ?_
        rotate_left 1
        · (intro w' hSw; go_simp; try with_reducible rfl)
        try simp only [Act.put, List.setIfInBounds_toArray, List.set_cons_zero, List.set_cons_succ]
        refine wpAnyH_take (i := 12) (oi := ⟨some 193, _, _, _, _, _⟩) (v := ?_) rfl (by kernel_rfl) (by decide +kernel) (by decide +kernel) (fun _ _ _ h => h) (Or.inl ⟨by rfl, ?_⟩) (by assumption) ?_
        rotate_left 1
        · (intro w' hSw; go_simp; try with_reducible rfl)
        try simp only [Act.put, List.setIfInBounds_toArray, List.set_cons_zero, List.set_cons_succ]
        refine wpAnyH_take (i := 13) (oi := ⟨some 194, _, _, _, _, _⟩) (v := ?_) rfl (by kernel_rfl) (by decide +kernel) (by decide +kernel) (fun _ _ _ h => h) (Or.inl ⟨by rfl, ?_⟩) (by assumption) ?_
        rotate_left 1
        · (intro w' hSw; go_simp; try with_reducible rfl)
        try simp only [Act.put, List.setIfInBounds_toArray, List.set_cons_zero, List.set_cons_succ]
        refine wpAnyH_take (i := 14) (oi := ⟨some 195, _, _, _, _, _⟩) (v := ?_) rfl (by kernel_rfl) (by decide +kernel) (by decide +kernel) (fun _ _ _ h => h) (Or.inl ⟨by rfl, ?_⟩) (by assumption) ?_
        rotate_left 1
        · (intro w' hSw; have hcell := hSw.2; clear hSw; go_simp; try with_reducible rfl)
        try simp only [Act.put, List.setIfInBounds_toArray, List.set_cons_zero, List.set_cons_succ]
        refine wpAnyH_ready (rs := [10]) (by decide +kernel) (by simp) ?_
        refine AllReadyH.cons rfl (fun K hK => ?_) AllReadyH.nil
        go_simp
        go_at_call 31
        refine HCD.out.mono ?_
        rintro e wC ⟨rfl, rfl⟩
        go_wp2_with fail
        refine hK.out _ _ HSS.out (fun hHeld => ?_)
        clear hK K
        try simp only [Act.put, List.setIfInBounds_toArray, List.set_cons_zero, List.set_cons_succ]
        refine wpAnyH_take (i := 15) (oi := ⟨some 196, _, _, _, _, _⟩) (v := ?_) rfl (by kernel_rfl) (by decide +kernel) (by decide +kernel) (fun _ _ _ h => h) (Or.inl ⟨by rfl, ?_⟩) (by assumption) ?_
        rotate_left 1
        · (intro w' hSw; go_simp; try with_reducible rfl)
        try simp only [Act.put, List.setIfInBounds_toArray, List.set_cons_zero, List.set_cons_succ]
        refine wpAnyH_take (i := 16) (oi := ⟨some 197, _, _, _, _, _⟩) (v := ?_) rfl (by kernel_rfl) (by decide +kernel) (by decide +kernel) (fun _ _ _ h => h) (Or.inl ⟨by rfl, ?_⟩) (by assumption) ?_
        rotate_left 1
        · (intro w' hSw; go_simp; try with_reducible rfl)
        try simp only [Act.put, List.setIfInBounds_toArray, List.set_cons_zero, List.set_cons_succ]
        clear hHeld
        refine wpAnyH_done (by decide +kernel) ?_ _
        refine NoPanic.normal ?_
        clear HSS HCW HCD hwI
        go_wp2_with fail
        go_roundw
        case rel => exact ⟨i + 1, by have := HLT.out; omega, by go_num, _, _, _, _, HPB.out, by rw [HNN.out]; exact HWL.out⟩
        case measure => simp [intOf]; have := HLT.out; omega
      have hkb5 : (kd == 5) = false := by simp [hk5]
      clear hk5
      have HFL := Lib.hid (writeA_length (decide (adr < n ∧ lb = 512)) (adr, SB) ws lim dn)
      have HPR := Lib.hid HPR.out.drewd
      have HAX := Lib.hid HAX.out.drewd
      obtain ⟨K, hLK, hPP, hbk⟩ := HPR.out.prog [T, X] HAX.out.plain
      have HBK := Lib.hid hbk
      have HC := Lib.hid (po_write_all w w8.drew K D gl n F ws lim dn adr X o lb lb SB hPP HOK.out.adr HAX.out.byt HSL.out HO.out (by have := HWS.out; have := HLI.out; omega))
      have HLK := Lib.hid hLK
      clear hPP hbk hLK
      have HSS := Lib.hid (show w8.cell? ⟨T, 1, none⟩ = some (.int .u32 (adr : Int)) from cc1)
      clear cc1 cc5 cc6
      go_upto_region 16 with fail
      try simp only [Act.put]
      refine wp_region_noPanic ?_
      refine wp_region_held_drew (S := fun W => W.cell? ⟨T, 1, none⟩ = some (.int .u32 (adr : Int))) (by kernel_rfl) HSS.out (fun hHeld => ?_)
      refine wpAnyH_take (i := 0) (oi := ⟨some 76, _, _, _, _, _⟩) (v := ?_) rfl (by kernel_rfl) (by decide +kernel) (by decide +kernel) (fun _ _ _ h => h) (Or.inl ⟨by rfl, ?_⟩) (by assumption) ?_
      rotate_left 1
      · (intro w' hSw; go_simp; try with_reducible rfl)
      try simp only [Act.put, List.setIfInBounds_toArray, List.set_cons_zero, List.set_cons_succ]
      refine wpAnyH_take (i := 1) (oi := ⟨some 77, _, _, _, _, _⟩) (v := ?_) rfl (by kernel_rfl) (by decide +kernel) (by decide +kernel) (fun _ _ _ h => h) (Or.inl ⟨by rfl, ?_⟩) (by assumption) ?_
      rotate_left 1
      · (intro w' hSw; go_simp; try with_reducible rfl)
      try simp only [Act.put, List.setIfInBounds_toArray, List.set_cons_zero, List.set_cons_succ]
      refine wpAnyH_take (i := 2) (oi := ⟨some 78, _, _, _, _, _⟩) (v := ?_) rfl (by kernel_rfl) (by decide +kernel) (by decide +kernel) (fun _ _ _ h => h) (Or.inl ⟨by rfl, ?_⟩) (by assumption) ?_
      rotate_left 1
      · (intro w' hSw; go_simp; try with_reducible rfl)
      try simp only [Act.put, List.setIfInBounds_toArray, List.set_cons_zero, List.set_cons_succ]
      refine wpAnyH_take (i := 3) (oi := ⟨some 79, _, _, _, _, _⟩) (v := ?_) rfl (by kernel_rfl) (by decide +kernel) (by decide +kernel) (fun _ _ _ h => h) (Or.inl ⟨by rfl, ?_⟩) (by assumption) ?_
      rotate_left 1
      · (intro w' hSw; go_simp; try with_reducible rfl)
      try simp only [Act.put, List.setIfInBounds_toArray, List.set_cons_zero, List.set_cons_succ]
      refine wpAnyH_take (i := 5) (oi := ⟨some 81, _, _, _, _, _⟩) (v := ?_) rfl (by kernel_rfl) (by decide +kernel) (by decide +kernel) (fun _ _ _ h => h) (Or.inl ⟨by rfl, ?_⟩) (by assumption) ?_
      rotate_left 1
      · (intro w' hSw; go_simp; try with_reducible rfl)
      try simp only [Act.put, List.setIfInBounds_toArray, List.set_cons_zero, List.set_cons_succ]
      refine wpAnyH_take (i := 6) (oi := ⟨some 82, _, _, _, _, _⟩) (v := ?_) rfl (by kernel_rfl) (by decide +kernel) (by decide +kernel) (fun _ _ _ h => h) (Or.inl ⟨by rfl, ?_⟩) (by assumption) ?_
      rotate_left 1
      · (intro w' hSw; go_simp; try with_reducible rfl)
      try simp only [Act.put, List.setIfInBounds_toArray, List.set_cons_zero, List.set_cons_succ]
      refine wpAnyH_take (i := 7) (oi := ⟨some 83, _, _, _, _, _⟩) (v := ?_) rfl (by kernel_rfl) (by decide +kernel) (by decide +kernel) (fun _ _ _ h => h) (Or.inl ⟨by rfl, ?_⟩) (by assumption) ?_
      rotate_left 1
      · (intro w' hSw; go_simp; try with_reducible rfl)
      try simp only [Act.put, List.setIfInBounds_toArray, List.set_cons_zero, List.set_cons_succ]
      refine wpAnyH_take (i := 8) (oi := ⟨some 84, _, _, _, _, _⟩) (v := ?_) rfl (by kernel_rfl) (by decide +kernel) (by decide +kernel) (fun _ _ _ h => h) (Or.inl ⟨by rfl, ?_⟩) (by assumption) ?_
      rotate_left 1
      · (intro w' hSw; go_simp; try with_reducible rfl)
      try simp only [Act.put, List.setIfInBounds_toArray, List.set_cons_zero, List.set_cons_succ]
      clear hHeld
      refine wpAnyH_ready (rs := [4]) (by decide +kernel) (by simp) ?_
      refine AllReadyH.cons rfl (fun K hK => ?_) AllReadyH.nil
      go_simp
      go_at_call 28
      refine HC.out.mono ?_
      rintro e wA ⟨rfl, hPA, hSA⟩
      have HPA := Lib.hid (HBK.out _ _ _ _ _ hPA hSA)
      have HAX := Lib.hid (HAX.out.stay hSA HLK.out)
      clear hPA hSA HC HBK HLK HPR HSS
      go_wp2_with fail
      refine hK.out _ _ ((act_at HAX.out.act).2.1) (fun hHeld => ?_)
      clear hK K hHeld
      try simp only [Act.put, List.setIfInBounds_toArray, List.set_cons_zero, List.set_cons_succ]
      obtain ⟨K2, hLK, hPP, hbk⟩ := HPA.out.refd [T, X] HAX.out.plain
      have HBK := Lib.hid hbk
      have HC := Lib.hid (ro_write_all w wA K2 E hl n F ws lim dn adr X o lb lb SB hPP HOK.out.adr HAX.out.byt HSL.out HO.out (by have := HWS.out; have := HLI.out; omega))
      have HLK := Lib.hid hLK
      clear hPP hbk hLK
      refine wpAnyH_ready (rs := [9]) (by decide +kernel) (by simp) ?_
      refine AllReadyH.cons rfl (fun K hK => ?_) AllReadyH.nil
      go_simp
      go_at_call 29
      refine HC.out.mono ?_
      rintro e wB ⟨rfl, hPB, hSB⟩
      have HPB := Lib.hid (HBK.out _ _ _ _ _ hPB hSB)
      have HAX2 := Lib.hid (HAX.out.stay hSB HLK.out)
      clear hPB hSB HC HBK HLK HPA HAX
      go_wp2_with fail
      refine hK.out _ _ ((act_at HAX2.out.act).2.1) (fun hHeld => ?_)
      clear hK K HAX2
      try simp only [Act.put, List.setIfInBounds_toArray, List.set_cons_zero, List.set_cons_succ]
      refine wpAnyH_take (i := 10) (oi := ⟨some 86, _, _, _, _, _⟩) (v := ?_) rfl (by kernel_rfl) (by decide +kernel) (by decide +kernel) (fun _ _ _ h => h) (Or.inl ⟨by rfl, ?_⟩) (by assumption) ?_
      rotate_left 1
      · (intro w' hSw; go_simp; try with_reducible rfl)
      try simp only [Act.put, List.setIfInBounds_toArray, List.set_cons_zero, List.set_cons_succ]
      clear hHeld
      refine wpAnyH_done (by decide +kernel) ?_ _
      refine NoPanic.normal ?_
      generalize writeA (decide (adr < n ∧ lb = 512)) (adr, SB) ws lim dn = Q at *
      obtain ⟨err, ws', lim', dn'⟩ := Q
      have HPB := Lib.hid (show PR w wB D gl n F ws' lim' dn' E hl n F ws' lim' dn' from HPB.out)
      have HWL := Lib.hid (show ws'.length ≤ i + 1 by have h : ws'.length ≤ ws.length + 1 := HFL.out; have := HWS.out; omega)
      clear HFL
      have HPB := Lib.hid HPB.out.drewd
      obtain ⟨vv, hrd⟩ := HPB.out.rd
      obtain ⟨av, cv, hvv⟩ : ∃ a c, vv = .slice a (ws').length c := by
        rcases hrd.wai.2 with ⟨hv, h0⟩ | ⟨g, c, cur, hv, _⟩
        · exact ⟨none, 0, by rw [hv, h0]⟩
        · exact ⟨_, c, hv⟩
      subst hvv
      obtain ⟨_, r1, _, r3⟩ := rd_at hrd.dev
      obtain ⟨K, _, hPP, _⟩ := HPB.out.prog [] (by simp)
      have HCW := Lib.hid (po_waits w _ _ D gl n _ _ _ _ hPP (by have := HWL.out; have := HLI.out; omega))
      have HCD := Lib.hid (po_down w _ _ D gl n _ _ _ _ hPP)
      have HSS := Lib.hid (show wB.drew.cell? ⟨E, 1, none⟩ = some (.slice av (ws').length cv) ∧ wB.drew.cell? ⟨E, 3, none⟩ = some (.bool dn') from ⟨r1, r3⟩)
      have hwI : ((ws').length : Int) ≤ 100 := by have := HWL.out; have := HLI.out; omega
      generalize hNN : (ws').length = NN at *
      have HNN := Lib.hid hNN
      clear hNN hrd hPP r1 r3
      go_upto_region 37 with fail
      try simp only [Act.put]
      refine wp_region_noPanic ?_
      refine wp_region_held_drew (S := fun W => W.cell? ⟨E, 1, none⟩ = some (.slice av NN cv) ∧ W.cell? ⟨E, 3, none⟩ = some (.bool dn')) (by kernel_rfl) HSS.out (fun hHeld => ?_)
      refine wpAnyH_take (i := 0) (oi := ⟨some 181, _, _, _, _, _⟩) (v := ?_) rfl (by kernel_rfl) (by decide +kernel) (by decide +kernel) (fun _ _ _ h => h) (Or.inl ⟨by rfl, ?_⟩) (by assumption) ?_
      rotate_left 1
      · (intro w' hSw; go_simp; try with_reducible rfl)
      try simp only [Act.put, List.setIfInBounds_toArray, List.set_cons_zero, List.set_cons_succ]
      refine wpAnyH_take (i := 2) (oi := ⟨some 183, _, _, _, _, _⟩) (v := ?_) rfl (by kernel_rfl) (by decide +kernel) (by decide +kernel) (fun _ _ _ h => h) (Or.inl ⟨by rfl, ?_⟩) (by assumption) ?_
      rotate_left 1
      · (intro w' hSw; go_simp; try with_reducible rfl)
      try simp only [Act.put, List.setIfInBounds_toArray, List.set_cons_zero, List.set_cons_succ]
      refine wpAnyH_take (i := 3) (oi := ⟨some 184, _, _, _, _, _⟩) (v := ?_) rfl (by kernel_rfl) (by decide +kernel) (by decide +kernel) (fun _ _ _ h => h) (Or.inl ⟨by rfl, ?_⟩) (by assumption) ?_
      rotate_left 1
      · (intro w' hSw; go_simp; try with_reducible rfl)
      try simp only [Act.put, List.setIfInBounds_toArray, List.set_cons_zero, List.set_cons_succ]
      refine wpAnyH_take (i := 4) (oi := ⟨some 185, _, _, _, _, _⟩) (v := ?_) rfl (by kernel_rfl) (by decide +kernel) (by decide +kernel) (fun _ _ _ h => h) (Or.inl ⟨by rfl, ?_⟩) (by assumption) ?_
      rotate_left 1
      · (intro w' hSw; go_simp; try with_reducible rfl)
      try simp only [Act.put, List.setIfInBounds_toArray, List.set_cons_zero, List.set_cons_succ]
      refine wpAnyH_take (i := 5) (oi := ⟨some 186, _, _, _, _, _⟩) (v := ?_) rfl (by kernel_rfl) (by decide +kernel) (by decide +kernel) (fun _ _ _ h => h) (Or.inl ⟨by rfl, ?_⟩) (by assumption) ?_
      rotate_left 1
      · (intro w' hSw; have hcell := hSw.1; clear hSw; go_simp; try with_reducible rfl)
      try simp only [Act.put, List.setIfInBounds_toArray, List.set_cons_zero, List.set_cons_succ]
      refine wpAnyH_take (i := 6) (oi := ⟨some 187, _, _, _, _, _⟩) (v := ?_) rfl (by kernel_rfl) (by decide +kernel) (by decide +kernel) (fun _ _ _ h => h) (Or.inl ⟨by rfl, ?_⟩) (by assumption) ?_
      rotate_left 1
      · (intro w' hSw; go_simp; try with_reducible rfl)
      try simp only [Act.put, List.setIfInBounds_toArray, List.set_cons_zero, List.set_cons_succ]
      refine wpAnyH_ready (rs := [1]) (by decide +kernel) (by simp) ?_
      refine AllReadyH.cons rfl (fun K hK => ?_) AllReadyH.nil
      go_simp
      go_at_call 30
      refine HCW.out.mono ?_
      rintro e wC ⟨rfl, rfl⟩
      go_wp2_with fail
      refine hK.out _ _ HSS.out (fun hHeld => ?_)
      clear hK K
      try simp only [Act.put, List.setIfInBounds_toArray, List.set_cons_zero, List.set_cons_succ]
      refine wpAnyH_take (i := 7) (oi := ⟨some 188, _, _, _, _, _⟩) (v := ?_) rfl (by kernel_rfl) (by decide +kernel) (by decide +kernel) (fun _ _ _ h => h) (Or.inl ⟨by rfl, ?_⟩) (by assumption) ?_
      rotate_left 1
      · (intro w' hSw; go_simp; try with_reducible rfl)
      try simp only [Act.put, List.setIfInBounds_toArray, List.set_cons_zero, List.set_cons_succ]
      refine wpAnyH_take (i := 8) (oi := ⟨some 189, _, _, _, _, _⟩) (v := ?_) rfl (by kernel_rfl) (by decide +kernel) (by decide +kernel) (fun _ _ _ h => h) (Or.inl ⟨by rfl, ?_⟩) (by assumption) ?_
      rotate_left 1
      · (intro w' hSw; go_simp; try with_reducible rfl)
      try simp only [Act.put, List.setIfInBounds_toArray, List.set_cons_zero, List.set_cons_succ]
      refine wpAnyH_take (i := 9) (oi := ⟨some 190, _, _, _, _, _⟩) (v := ?_) rfl (by kernel_rfl) (by decide +kernel) (by decide +kernel) (fun _ _ _ h => h) (Or.inl ⟨by rfl, ?_⟩) (by assumption) ?_
      rotate_left 1
      · (intro w' hSw; go_simp; try with_reducible rfl)
      try simp only [Act.put, List.setIfInBounds_toArray, List.set_cons_zero, List.set_cons_succ]
      refine wpAnyH_take (i := 11) (oi := ⟨some 192, _, _, _, _, _⟩) (v := ?_) rfl (by kernel_rfl) (by decide +kernel) (by decide +kernel) (fun _ _ _ h => h) (Or.inl ⟨by rfl, ?_⟩) (by assumption) ?_
      rotate_left 1
      · (intro w' hSw; go_simp; try with_reducible rfl)
      try simp only [Act.put, List.setIfInBounds_toArray, List.set_cons_zero, List.set_cons_succ]
      refine wpAnyH_take (i := 12) (oi := ⟨some 193, _, _, _, _, _⟩) (v := ?_) rfl (by kernel_rfl) (by decide +kernel) (by decide +kernel) (fun _ _ _ h => h) (Or.inl ⟨by rfl, ?_⟩) (by assumption) ?_
      rotate_left 1
      · (intro w' hSw; go_simp; try with_reducible rfl)
      try simp only [Act.put, List.setIfInBounds_toArray, List.set_cons_zero, List.set_cons_succ]
      refine wpAnyH_take (i := 13) (oi := ⟨some 194, _, _, _, _, _⟩) (v := ?_) rfl (by kernel_rfl) (by decide +kernel) (by decide +kernel) (fun _ _ _ h => h) (Or.inl ⟨by rfl, ?_⟩) (by assumption) ?_
      rotate_left 1
      · (intro w' hSw; go_simp; try with_reducible rfl)
      try simp only [Act.put, List.setIfInBounds_toArray, List.set_cons_zero, List.set_cons_succ]
      refine wpAnyH_take (i := 14) (oi := ⟨some 195, _, _, _, _, _⟩) (v := ?_) rfl (by kernel_rfl) (by decide +kernel) (by decide +kernel) (fun _ _ _ h => h) (Or.inl ⟨by rfl, ?_⟩) (by assumption) ?_
      rotate_left 1
      · (intro w' hSw; have hcell := hSw.2; clear hSw; go_simp; try with_reducible rfl)
      try simp only [Act.put, List.setIfInBounds_toArray, List.set_cons_zero, List.set_cons_succ]
      refine wpAnyH_ready (rs := [10]) (by decide +kernel) (by simp) ?_
      refine AllReadyH.cons rfl (fun K hK => ?_) AllReadyH.nil
      go_simp
      go_at_call 31
      refine HCD.out.mono ?_
      rintro e wC ⟨rfl, rfl⟩
      go_wp2_with fail
      refine hK.out _ _ HSS.out (fun hHeld => ?_)
      clear hK K
      try simp only [Act.put, List.setIfInBounds_toArray, List.set_cons_zero, List.set_cons_succ]
      refine wpAnyH_take (i := 15) (oi := ⟨some 196, _, _, _, _, _⟩) (v := ?_) rfl (by kernel_rfl) (by decide +kernel) (by decide +kernel) (fun _ _ _ h => h) (Or.inl ⟨by rfl, ?_⟩) (by assumption) ?_
      rotate_left 1
      · (intro w' hSw; go_simp; try with_reducible rfl)
      try simp only [Act.put, List.setIfInBounds_toArray, List.set_cons_zero, List.set_cons_succ]
      refine wpAnyH_take (i := 16) (oi := ⟨some 197, _, _, _, _, _⟩) (v := ?_) rfl (by kernel_rfl) (by decide +kernel) (by decide +kernel) (fun _ _ _ h => h) (Or.inl ⟨by rfl, ?_⟩) (by assumption) ?_
      rotate_left 1
      · (intro w' hSw; go_simp; try with_reducible rfl)
      try simp only [Act.put, List.setIfInBounds_toArray, List.set_cons_zero, List.set_cons_succ]
      clear hHeld
      refine wpAnyH_done (by decide +kernel) ?_ _
      refine NoPanic.normal ?_
      clear HSS HCW HCD hwI
      go_wp2_with fail
      go_roundw
      case rel => exact ⟨i + 1, by have := HLT.out; omega, by go_num, _, _, _, _, HPB.out, by rw [HNN.out]; exact HWL.out⟩
      case measure => simp [intOf]; have := HLT.out; omega
    · have hbv : decide (i < len1) = false := by simp; omega
      obtain ⟨vv, hrd⟩ := hP.rd
      obtain ⟨r0, _, _, _⟩ := rd_at hrd.dev
      have HP := Lib.hid hP
      clear hP hi hlt hws hrd
      go_wp2_with fail
      clear r0
      go_loopw [204] (fun v204 wr => ∃ j : Nat, j ≤ n ∧ v204 = .int .i64 (j : Nat) ∧ PR w wr D gl n F ws lim dn E hl n F ws lim dn) (fun v _ => n - (intOf v).toNat)
      case atStart => exact ⟨0, by omega, rfl, HP.out⟩
      case round =>
        obtain ⟨j, hj, rfl, hP⟩ := hrel
        by_cases hlt : j < n
        · have jI : (j : Int) < (n : Int) := by omega
          have j0 : (0 : Int) ≤ (j : Int) := by omega
          have j1 : (j : Int) < 100 := by omega
          have HLT := Lib.hid hlt
          obtain ⟨K, _, hPP, _⟩ := hP.prog [] (by simp)
          have HPP := Lib.hid hP
          have HK := Lib.hid (po_peek w wr _ D gl n j _ _ _ _ hPP hlt)
          have hix := index_i64 hl n j hlt
          have hsl := slice_sec hl (j * 512)
          clear hP hj hlt hPP
          go_wp2_with fail
          refine HK.out.mono ?_
          rintro e w5 ⟨⟨rfl, hA5, hl5, hb5⟩, _⟩
          have hP5 := HPP.out.below hb5
          obtain ⟨vv, hrd⟩ := hP5.rd
          obtain ⟨r0, _, _, _⟩ := rd_at hrd.dev
          have HP5 := Lib.hid hP5
          have HSE := Lib.hid (same_eq w5 _ _ _ (BS.of_arr0 (n := 512) (cap := 512) hA5 hl5) (BS.of_sec hrd.lay hrd.len HLT.out))
          clear hA5 hl5 hb5 hP5 hrd HK HPP
          generalize wr.heap.size = Y at *
          go_wp2_with fail
          refine HSE.out.mono ?_
          rintro e w7 ⟨rfl, rfl⟩
          clear r0
          go_wp2_with fail
          go_roundw
          case rel => exact ⟨j + 1, by have := HLT.out; omega, by go_num, HP5.out⟩
          case measure => simp [intOf]; have := HLT.out; omega
        · have hbv2 : decide (j < n) = false := by simp; omega
          have HB := Lib.hid hP.bel
          clear hP hj hlt
          go_wp2_with fail
          go_ret
          exact ⟨rfl, HB.out⟩
set_option maxRecDepth 100000 in
theorem lifted (os : Os) (started : os.Started) (H : Type) (enc : TypeId × Value → H) :
    ReturnsInHanded {} Try.checked os 3 .any (Rows.devActsSpec.pre6 enc Try.prog Try.f3 Rows.devActsRow.domain false) (Rows.devActsSpec.post enc Try.prog Try.f3 false true false false) := by
  refine returnsInHanded_of_change_sized (C := Try.checked) own started (by kernel_rfl) Try.func3
    (ChangeSpec.witness6 (enc := enc) (C := Try.checked) false ⟨#[], #[.int .i64 0, .slice none 0 0], []⟩ 8 (by kernel_rfl) (by kernel_rfl) (by kernel_rfl) (by kernel_rfl)) ?_
  intro W base args ds gs before hval0 hW hcnd hsz0 _
  have hsz : (DataW.weightsEach Try.prog (Try.f3.params.toList ++ Rows.devActsSpec.plain.varTypes Try.prog) (ds ++ gs)).all (· ≤ reachBytes) = true := hsz0
  clear hsz0
  have hval : ∀ (j : Nat) t v, Try.f3.params[j]? = some t → args[j]? = some v → Value.okWide Try.prog W .any base t v := hval0
  have hW' := hW
  obtain ⟨p, q, hA0, hV, rfl, hfz, hnd⟩ := hW
  have hA : DataW.TrodAll enc Try.prog W 0 (fun _ => true) true Try.f3.params.toList args.toList ds p := hA0
  rw [Try.params3] at hA hval hsz
  obtain ⟨v0, vs0, d0, ds0, p0, q0, hargs, rfl, rfl, h0, r0⟩ := trodAll_cons hA
  obtain ⟨v1, vs1, d1, ds1, p1, q1, rfl, rfl, rfl, h1, r1⟩ := trodAll_cons r0
  obtain ⟨rfl, rfl, rfl⟩ := trodAll_nil r1
  obtain rfl : args = #[v0, v1] := by cases args; simp_all
  obtain ⟨rfl, rfl⟩ := trodVars_none hV
  have k0 := h0
  have lt0 : ∀ x ∈ p0, x.block < W.heap.size := by obtain ⟨m, hm⟩ := k0; exact DataW.trod_lt m _ _ _ hm
  have k1 := h1
  have lt1 : ∀ x ∈ p1, x.block < W.heap.size := by obtain ⟨m, hm⟩ := k1; exact DataW.trod_lt m _ _ _ hm
  obtain ⟨x, rfl, hx0, hx1⟩ := open_i64 (hval 0 3 v0 rfl rfl) h0 hsz
  obtain ⟨a1, len1, cap1, rfl, hact, hlen1⟩ := open_acts (hval 1 22 v1 rfl rfl) h1 hsz
  clear hA0 hval0
  simp only [List.append_nil] at hW'
  refine (walk W x hx0 hx1 a1 len1 cap1 hact hlen1).mono fun e W' ⟨he, bel⟩ => ?_
  subst he
  exact ⟨_, rfl, _, _, _, [], _, [], hW', trodAll_mk1 (shut_bool Try.underlying4 _), (trodAll_cons_mk (Below.trod laidOut (by kernel_rfl) (of_decide_eq_true (by kernel_rfl)) k0 bel lt0) (trodAll_cons_mk (Below.trod laidOut (by kernel_rfl) (of_decide_eq_true (by kernel_rfl)) k1 bel lt1) trodAll_mk0)), rfl, bel.frame _, fun h => by cases h⟩

theorem over : Rows.devActsRow.holds Try.pinned (OpenSpec.ofChange Rows.devActsSpec) :=
  OpenClaim.holds_of_wide 3 Try.f3 rfl rfl rfl rfl rfl rfl rfl ⟨rfl, rfl, rfl, rfl, rfl⟩ rfl rfl rfl rfl rfl (by kernel_rfl) Try.func3 (by kernel_rfl)
    (of_decide_eq_true (by kernel_rfl)) (by unfold Func.isWrapper; first | (rw [if_pos (by decide +kernel)]; kernel_rfl) | (rw [if_neg (by decide +kernel)]; exact ⟨rfl, rfl⟩))
    (fun os started H enc _ => lifted os started H enc)

/-- The statement. -/
theorem proved : Rows.DevActsSaid := over
#print axioms proved
end Go.Proofs.Ytmfpdbmohebodaa.devActs
