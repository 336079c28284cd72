/-
  Blocks sealed: Seal, of both.
-/
import Derived.Test.YtfgdddejpdjllaaDoorEc
namespace Go.Proofs.YtfgdddejpdjllaaDoor
set_option maxRecDepth 4000
set_option linter.unusedVariables false
open Go.ChangeShapes Go.WideShapes Go.ChangeAt Go.RowKit

theorem results_three {P : Program} {fn : Func} {p q r : Tmp} {ty : TypeId} (h : fn.results = #[.tmp p, .cell q ty, .tmp r]) (tmps : Array Value) (w : World) (g : Nat) (t : TypeId) (cs : Array Value) (fr : Nat × Nat) (d : TypeDesc)
    (hq : tmps.getD q undef = .pointer (some ⟨g, 0, none⟩)) (hg : w.heap[g]? = some (.cells cs t fr))
    (hu : P.underlying ty = some d) (hd : (match d with | .struct _ | .array _ _ => true | _ => false) = true) (hi : (P.info? ty).map (·.size) = some cs.size) (u v : Value) (hp : tmps.getD p undef = u) (hr : tmps.getD r undef = v) :
    (results fn tmps).run P w = .ok (.tuple #[u, .agg cs, v]) w := by
  have hq' : tmps[q]?.getD undef = .pointer (some ⟨g, 0, none⟩) := by simpa using hq
  have hp' : tmps[p]?.getD undef = u := by simpa using hp
  have hr' : tmps[r]?.getD undef = v := by simpa using hr
  simp [results, h, hp', hq', hr', asAddr, run_loadVar_row w g t ty cs fr d hg hu hd hi]
theorem size_rkeys (l : List (BitVec 8)) (h : l.length = 64) : (Tryd.prog.info? 31).map (·.size) = some (yvs l).size := by rw [show (Tryd.prog.info? 31).map (·.size) = some 64 by kernel_rfl, yvs_size, h]
theorem build_ptrOf (a c : Nat) (l : List Int) (hc : c < 4294967296) (ha : a < 18446744073709551616) (W : World) : (Instr.build 41 #[(0, .int .u32 (c : Int)), (1, .int .u64 (a : Int)), (2, .agg (u8s (hashS l)))]).run Tryd.prog W = .ok (.agg (ptrRow (ptrOf a c l)).toArray) W := by
  have h := build_ptr (ptrOf a c l) W
  obtain ⟨h1, h2, h3⟩ := ptrOf_parts a c l hc ha
  rw [h1, h2, h3] at h
  exact h
/-- What may be sealed. -/
def mayS (n a c : Nat) : Prop := n = 512 ∧ a ≠ 0 ∧ 2 ≤ c ∧ c < 4096
instance (n a c : Nat) : Decidable (mayS n a c) := by unfold mayS; infer_instance
theorem cell_same {w w' : World} {a : Addr} (h : w'.heap[a.block]? = w.heap[a.block]?) : w'.cell? a = w.cell? a := by simp [World.cell?, h]
/-- Bytes stay where a block is written that isn't theirs. -/
theorem bs_row {w : World} {a : Option Addr} {n c g : Nat} {l : List Int} {cs : Array Value} (h : BS w (.slice a n c) l) (hne : ∀ x, a = some x → x.block ≠ g) : BS (w.setRow g cs) (.slice a n c) l := by
  obtain ⟨a', c', he, hy, hn, h⟩ := h
  refine ⟨a', c', he, hy, hn, h.imp id ?_⟩
  rintro ⟨b, off, ha, hc⟩
  refine ⟨b, off, ha, fun i hi => ?_⟩
  rw [← hc i hi]
  injection he with e1 _ _
  exact cell_same (a := ⟨b, off + i, none⟩) (setRow_other _ _ _ _ (hne ⟨b, off, none⟩ (e1.trans ha)))
def SealUp (w : World) (S : List (BitVec 8)) (P : PtrV) (e : Ending) (w' : World) : Prop := ∃ a cap, e = .returned (.tuple #[.slice a 512 cap, .agg (ptrRow P).toArray, .int .i64 0]) ∧ BS w' (.slice a 512 cap) (S.map yv) ∧ 512 ≤ cap ∧ cap ≤ 9223372036854775807 ∧ (∀ x, a = some x → w.heap.size ≤ x.block) ∧ Below w.heap.size w w'
theorem info_boxes : (Tryd.prog.info? 38).map (·.size) = some (yvs boxesL).toList.length := by rw [Array.length_toList, yvs_size, boxes_length]; kernel_rfl
theorem info_rkeyL (l : List (BitVec 8)) (h : l.length = 32) : (Tryd.prog.info? 24).map (·.size) = some (yvs l).toList.length := by rw [Array.length_toList]; exact size_k32 l h
/-- Where the bytes lie: a block of their own. -/
def SealOf (w : World) (S : List (BitVec 8)) (P : PtrV) (e : Ending) (w' : World) : Prop := ∃ g, w.heap.size ≤ g ∧ e = .returned (.tuple #[.slice (some ⟨g, 0, none⟩) 512 512, .agg (ptrRow P).toArray, .int .i64 0]) ∧ ArrY w' g 5 S ∧ Below w.heap.size w w'
set_option maxRecDepth 100000 in
set_option maxHeartbeats 3200000 in
theorem pseal_ok (k m : List (BitVec 8)) (a c : Nat) (l : List (BitVec 8)) (ad : Option Addr) (cap : Nat) (w : World) (hK : KT w) (hk : k.length = 32) (hm : m.length = 32) (hl : l.length = 512) (hB : BS w (.slice ad 512 cap) (l.map yv)) (ha : a < 18446744073709551616) (ha0 : a ≠ 0) (hc2 : 2 ≤ c) (hc : c < 4096) :
    Calls Tryd.prog 14 #[.agg (yvs (k ++ m)), .int .u64 (a : Int), .int .u32 (c : Int), .slice ad 512 cap] w (SealOf w (sealS k a c l) (ptrOf a c ((sealS k a c l).map yv))) := by
  have HSL := Lib.hid (sealS_length k a c l hl)
  have HC := Lib.hid (fun (W : World) (hb : Below w.heap.size w W) => crypted_any k m a c l ad cap W hk hl (hB.kept hb) (by omega))
  have HSM := Lib.hid (fun (W : World) (hb : Below w.heap.size w W) (g : Nat) (hg : ArrY W g 5 (sealS k a c l)) => shasum_any ((sealS k a c l).map yv) (.slice (some ⟨g, 0, none⟩) 512 512) W (hK.below hb hK.pos) (BS.of_arr0 hg (sealS_length k a c l hl)) (room_of _ _ _ (Nat.le_refl _) (by decide)) (by rw [List.length_map, sealS_length k a c l hl]; decide))
  have HBD := Lib.hid (build_ptrOf a c ((sealS k a c l).map yv) (by omega) ha)
  have aI : (1 : Int) ≤ (a : Int) := by omega
  have a0 : ((a : Int) == 0) = false := by simp; omega
  have c2 : (2 : Int) ≤ (c : Int) := by omega
  have c4 : (c : Int) < 4096 := by omega
  obtain ⟨hA0, hP0, hsz, hb0⟩ := ytwo w (.cells (yvs (k ++ m)) 28) (.cells (ptrRow zeroPtr).toArray 41)
  have SZ := Lib.hid (size_ptrA (ptrOf a c ((sealS k a c l).map yv)))
  have SE := Lib.hid (show (ptrRow zeroPtr).toArray.size = (ptrRow (ptrOf a c ((sealS k a c l).map yv))).toArray.size by simp [ptrRow_length])
  have SO := Lib.hid (ptrRow_one (ptrOf a c ((sealS k a c l).map yv)))
  have hz := zero_ptr
  have KA := Lib.hid hA0
  have SK := Lib.hid (size_keys (k ++ m) (by rw [List.length_append, hk, hm]))
  generalize hw1 : (w.alloc (.cells (yvs (k ++ m)) 28)).alloc (.cells (ptrRow zeroPtr).toArray 41) = w1 at *
  have HSZ := Lib.hid hsz
  have HB1 := Lib.hid hb0
  have HP1 := Lib.hid hP0
  clear hsz hb0 hA0 hP0 hk hm hl hB ha ha0 hc2 hc hK
  generalize sealS k a c l = S at *
  generalize hPR : (ptrRow (ptrOf a c (S.map yv))).toArray = PR at *
  have HPR := Lib.hid hPR
  generalize (ptrRow zeroPtr).toArray = PZ at *
  generalize u8s (hashS (S.map yv)) = HU at *
  clear hPR
  generalize yvs (k ++ m) = KM at *
  go_enter Tryd.func14, Tryd.ntmps14
  go_upto_region 1 with fail
  try rw [hw1]
  clear hw1 hz
  go_wp2_with (first
    | (with_reducible refine wpList_load_row (o := ⟨some 28, _, _, _, _, _⟩) rfl 28 _ rfl w.heap.size rfl 28 KM (0, 0) _ KA.out Tryd.underlying28 rfl SK.out ?_))
  refine (HC.out w1 HB1.out).mono ?_
  rintro e w3 ⟨g, hg, rfl, hA3, hb3⟩
  have HB3 := Lib.hid (HB1.out.trans (hb3.mono HB1.out.size))
  have HP3 := Lib.hid ((hb3.block (w.heap.size + 1) (by rw [HSZ.out]; omega)).trans HP1.out)
  have HA3 := Lib.hid hA3
  have HG := Lib.hid (show w.heap.size + 2 ≤ g by rw [← HSZ.out]; exact hg)
  have HS3 := Lib.hid (HSM.out w3 HB3.out g hA3)
  clear hb3 hA3 hg KA SK HP1 HB1 HSZ HC HSM
  go_wp2_with fail
  refine HS3.out.mono ?_
  rintro e w4 ⟨rfl, hb4⟩
  have HB4 := Lib.hid (HB3.out.trans (hb4.mono HB3.out.size))
  have HP4 := Lib.hid ((hb4.block (w.heap.size + 1) (lt_of_block HP3.out)).trans HP3.out)
  have HA4 := Lib.hid (HA3.out.below hb4 (lt_of_block HA3.out))
  clear hb4 HB3 HP3 HA3 HS3
  go_wp2_with (first
    | (with_reducible refine wpList_build_run (o := ⟨some 38, _, _, _, _, _⟩) rfl 41 _ rfl #[(0, .int .u32 (c : Int)), (1, .int .u64 (a : Int)), (2, .agg HU)] (by simp [Act.eval]) (.agg PR) (HBD.out _) ?_)
    | (with_reducible refine wpList_store_row (o := ⟨none, .store _ (.tmp 9) _, _, _, _, _⟩) rfl 41 _ _ rfl (w.heap.size + 1) PR rfl rfl 41 PZ HP4.out SZ.out SE.out SO.out ?_))
  exact bodyPost_ret (v := .tuple #[.slice (some ⟨g, 0, none⟩) 512 512, .agg PR, .int .i64 0]) (results_three Tryd.results14 _ _ (w.heap.size + 1) 41 PR (0, 0) _ rfl (setRow_heap _ (w.heap.size + 1) _ PR _ _ HP4.out) Tryd.underlying41 rfl SZ.out _ _ rfl rfl) rfl
    ⟨g, by have := HG.out; omega, by rw [HPR.out], (setRow_other _ _ _ _ (by have := HG.out; omega)).trans HA4.out, ybelow_row HB4.out (by omega) _⟩

set_option maxRecDepth 100000 in
set_option maxHeartbeats 3200000 in
theorem rseal_ok (k m : List (BitVec 8)) (a c : Nat) (l : List (BitVec 8)) (ad : Option Addr) (cap : Nat) (w : World) (hk : k.length = 32) (hm : m.length = 32) (hl : l.length = 512) (hB : BS w (.slice ad 512 cap) (l.map yv)) (ha : a < 18446744073709551616) (ha0 : a ≠ 0) (hc2 : 2 ≤ c) (hc : c < 4096) :
    Calls Tryd.prog 15 #[.agg (yvs boxesL), .agg (yvs (k ++ m)), .int .u64 (a : Int), .int .u32 (c : Int), .slice ad 512 cap] w (SealUp w (sealS k a c l) (ptrOf a c ((sealS k a c l).map yv))) := by
  have HSL := Lib.hid (sealS_length k a c l hl)
  have HN := Lib.hid (fun W => rmade_any5 a c W (by omega) (by omega))
  have HC := Lib.hid (fun (W : World) (hb : Below w.heap.size w W) => show Calls Tryd.prog 31 #[.agg (yvs boxesL), .agg (yvs k), .agg (yvs (beY 8 a ++ beY 4 c)), .slice ad 512 cap] W (SliceUp W (sealS k a c l) 512) from rcrypt_up k (beY 8 a ++ beY 4 c) l ad 512 cap W (hB.kept hb) hl (by decide) hk (by simp [beY_length]))
  have HSM := Lib.hid (fun (W : World) (x : Value) (hx : BS W x ((sealS k a c l).map yv)) => rsum_any ((sealS k a c l).map yv) x W hx (by rw [List.length_map, sealS_length k a c l hl]; decide))
  have HTK := Lib.hid (info_rkeyL k hk)
  have HTB := Lib.hid info_boxes
  have HBD := Lib.hid (build_ptrOf a c ((sealS k a c l).map yv) (by omega) ha)
  have aI : (1 : Int) ≤ (a : Int) := by omega
  have a0 : ((a : Int) == 0) = false := by simp; omega
  have c2 : (2 : Int) ≤ (c : Int) := by omega
  have c4 : (c : Int) < 4096 := by omega
  obtain ⟨hT0, hA0, hP0, hsz, hb0⟩ := ythree w (.cells (yvs boxesL) 38) (.cells (yvs (k ++ m)) 31) (.cells (ptrRow zeroPtr).toArray 41)
  have SZ := Lib.hid (size_ptrA (ptrOf a c ((sealS k a c l).map yv)))
  have SE := Lib.hid (show (ptrRow zeroPtr).toArray.size = (ptrRow (ptrOf a c ((sealS k a c l).map yv))).toArray.size by simp [ptrRow_length])
  have SO := Lib.hid (ptrRow_one (ptrOf a c ((sealS k a c l).map yv)))
  have hz := zero_ptr
  have KA := Lib.hid hA0
  have TA := Lib.hid hT0
  generalize hw1 : ((w.alloc (.cells (yvs boxesL) 38)).alloc (.cells (yvs (k ++ m)) 31)).alloc (.cells (ptrRow zeroPtr).toArray 41) = w1 at *
  have HSZ := Lib.hid hsz
  have HB1 := Lib.hid hb0
  have HP1 := Lib.hid hP0
  have HSV := Lib.hid (show ∀ W, Below w1.heap.size w1 W → W.rangeAt w.heap.size 0 (yvs boxesL).toList ∧ W.rangeAt (w.heap.size + 1) 0 (yvs k).toList from fun W hW => ⟨(ArrY.below (show ArrY w1 w.heap.size 38 boxesL from TA.out) hW (by rw [hsz]; omega)).all, KeyB.enc (KeyB.below (show KeyB w1 (w.heap.size + 1) 31 k m from KA.out) hW (by rw [hsz]; omega)) hk⟩)
  clear hsz hb0 hA0 hP0 hk hm hl hB ha ha0 hc2 hc hT0
  generalize sealS k a c l = S at *
  generalize hPR : (ptrRow (ptrOf a c (S.map yv))).toArray = PR at *
  have HPR := Lib.hid hPR
  generalize (ptrRow zeroPtr).toArray = PZ at *
  generalize u8s (hashS (S.map yv)) = HU at *
  clear hPR
  generalize yvs (k ++ m) = KM at *
  generalize hNL : beY 8 a ++ beY 4 c = NL at *
  generalize hTB : yvs boxesL = TBL at *
  clear hNL hTB
  go_enter Tryd.func15, Tryd.ntmps15
  go_upto_region 1 with fail
  try rw [hw1]
  clear hw1 hz
  go_upto_region 3 with fail
  try simp only [Act.put]
  refine wp_region_noPanic ?_
  refine wp_region_held_drew (S := fun W => W.rangeAt w.heap.size 0 TBL.toList ∧ W.rangeAt (w.heap.size + 1) 0 (yvs k).toList) (by kernel_rfl) (HSV.out _ (Below.refl _ w1).drew) (fun hHeld => ?_)
  refine wpAnyH_take (i := 0) (oi := ⟨some 32, _, _, _, _, _⟩) rfl (by kernel_rfl) (by decide +kernel) (by decide +kernel) (fun _ _ _ h => h) (yieldsIf_load_mid (by rfl) _ _ rfl (w.heap.size) (0) rfl TBL.toList _ (fun w' h => h.1) Tryd.underlying38 rfl HTB.out) (by assumption) ?_
  try simp only [Act.put, List.setIfInBounds_toArray, List.set_cons_zero, List.set_cons_succ, Array.toArray_toList]
  refine wpAnyH_take (i := 1) (oi := ⟨some 33, _, _, _, _, _⟩) (v := ?_) rfl (by kernel_rfl) (by decide +kernel) (by decide +kernel) (fun _ _ _ h => h) (Or.inl ⟨by rfl, ?_⟩) (by assumption) ?_
  rotate_left 1
  · (intro w' hSw; go_simp; try with_reducible rfl)
  try simp only [Act.put, List.setIfInBounds_toArray, List.set_cons_zero, List.set_cons_succ]
  refine wpAnyH_take (i := 2) (oi := ⟨some 34, _, _, _, _, _⟩) rfl (by kernel_rfl) (by decide +kernel) (by decide +kernel) (fun _ _ _ h => h) (yieldsIf_load_mid (by rfl) _ _ rfl (w.heap.size + 1) (0) rfl (yvs k).toList _ (fun w' h => h.2) Tryd.underlying24 rfl HTK.out) (by assumption) ?_
  try simp only [Act.put, List.setIfInBounds_toArray, List.set_cons_zero, List.set_cons_succ, Array.toArray_toList]
  refine wpAnyH_take (i := 3) (oi := ⟨some 35, _, _, _, _, _⟩) (v := ?_) rfl (by kernel_rfl) (by decide +kernel) (by decide +kernel) (fun _ _ _ h => h) (Or.inl ⟨by rfl, ?_⟩) (by assumption) ?_
  rotate_left 1
  · (intro w' hSw; go_simp; try with_reducible rfl)
  try simp only [Act.put, List.setIfInBounds_toArray, List.set_cons_zero, List.set_cons_succ]
  refine wpAnyH_take (i := 4) (oi := ⟨some 36, _, _, _, _, _⟩) (v := ?_) rfl (by kernel_rfl) (by decide +kernel) (by decide +kernel) (fun _ _ _ h => h) (Or.inl ⟨by rfl, ?_⟩) (by assumption) ?_
  rotate_left 1
  · (intro w' hSw; go_simp; try with_reducible rfl)
  try simp only [Act.put, List.setIfInBounds_toArray, List.set_cons_zero, List.set_cons_succ]
  refine wpAnyH_take (i := 6) (oi := ⟨some 38, _, _, _, _, _⟩) (v := ?_) rfl (by kernel_rfl) (by decide +kernel) (by decide +kernel) (fun _ _ _ h => h) (Or.inl ⟨by rfl, ?_⟩) (by assumption) ?_
  rotate_left 1
  · (intro w' hSw; go_simp; try with_reducible rfl)
  try simp only [Act.put, List.setIfInBounds_toArray, List.set_cons_zero, List.set_cons_succ]
  clear hHeld
  refine wpAnyH_ready (rs := [5]) (by decide +kernel) (by simp) ?_
  refine AllReadyH.cons rfl (fun K hK => ?_) AllReadyH.nil
  go_simp
  go_at_call 32
  refine (HN.out _).mono ?_
  rintro e w2 ⟨rfl, hb⟩
  have HB2 := Lib.hid ((Below.refl w1.heap.size w1).drew.trans (hb.mono (Below.refl w1.heap.size w1).drew.size))
  clear hb
  go_wp2_with fail
  refine hK.out _ _ (HSV.out _ HB2.out) (fun hHeld => ?_)
  clear hK K
  try simp only [Act.put, List.setIfInBounds_toArray, List.set_cons_zero, List.set_cons_succ]
  clear hHeld
  refine wpAnyH_ready (rs := [7]) (by decide +kernel) (by simp) ?_
  refine AllReadyH.cons rfl (fun K hK => ?_) AllReadyH.nil
  go_simp
  go_at_call 31
  refine (HC.out _ (HB1.out.trans (HB2.out.mono HB1.out.size))).mono ?_
  intro e w3 h3
  unfold SliceUp at h3
  obtain ⟨b3, cap3, rfl, B3, hc3, hd3, hn3, hb⟩ := h3
  have HB3 := Lib.hid (HB2.out.trans (hb.mono HB2.out.size))
  have HX3 := Lib.hid (And.intro B3 (And.intro hc3 (And.intro hd3 (show ∀ x, b3 = some x → w.heap.size + 2 < x.block by intro x hx; have := hn3 x hx; have := HB2.out.size; rw [HSZ.out] at this; omega))))
  clear hb B3 hc3 hd3 hn3
  go_wp2_with fail
  refine hK.out _ _ (HSV.out _ HB3.out) (fun hHeld => ?_)
  clear hK K
  try simp only [Act.put, List.setIfInBounds_toArray, List.set_cons_zero, List.set_cons_succ]
  refine wpAnyH_take (i := 8) (oi := ⟨some 31, _, _, _, _, _⟩) (v := ?_) rfl (by kernel_rfl) (by decide +kernel) (by decide +kernel) (fun _ _ _ h => h) (Or.inl ⟨by rfl, ?_⟩) (by assumption) ?_
  rotate_left 1
  · (intro w' hSw; go_simp; try with_reducible rfl)
  try simp only [Act.put, List.setIfInBounds_toArray, List.set_cons_zero, List.set_cons_succ]
  refine wpAnyH_take (i := 9) (oi := ⟨some 40, _, _, _, _, _⟩) (v := ?_) rfl (by kernel_rfl) (by decide +kernel) (by decide +kernel) (fun _ _ _ h => h) (Or.inl ⟨by rfl, ?_⟩) (by assumption) ?_
  rotate_left 1
  · (intro w' hSw; go_simp; try with_reducible rfl)
  try simp only [Act.put, List.setIfInBounds_toArray, List.set_cons_zero, List.set_cons_succ]
  refine wpAnyH_take (i := 10) (oi := ⟨some 41, _, _, _, _, _⟩) (v := ?_) rfl (by kernel_rfl) (by decide +kernel) (by decide +kernel) (fun _ _ _ h => h) (Or.inl ⟨by rfl, ?_⟩) (by assumption) ?_
  rotate_left 1
  · (intro w' hSw; go_simp; try with_reducible rfl)
  try simp only [Act.put, List.setIfInBounds_toArray, List.set_cons_zero, List.set_cons_succ]
  refine wpAnyH_take (i := 11) (oi := ⟨some 13, _, _, _, _, _⟩) (v := ?_) rfl (by kernel_rfl) (by decide +kernel) (by decide +kernel) (fun _ _ _ h => h) (Or.inl ⟨by rfl, ?_⟩) (by assumption) ?_
  rotate_left 1
  · (intro w' hSw; go_simp; try with_reducible rfl)
  try simp only [Act.put, List.setIfInBounds_toArray, List.set_cons_zero, List.set_cons_succ]
  refine wpAnyH_take (i := 12) (oi := ⟨some 14, _, _, _, _, _⟩) (v := ?_) rfl (by kernel_rfl) (by decide +kernel) (by decide +kernel) (fun _ _ _ h => h) (Or.inl ⟨by rfl, ?_⟩) (by assumption) ?_
  rotate_left 1
  · (intro w' hSw; go_simp; try with_reducible rfl)
  try simp only [Act.put, List.setIfInBounds_toArray, List.set_cons_zero, List.set_cons_succ]
  clear hHeld
  refine wpAnyH_done (by decide +kernel) ?_ _
  refine NoPanic.normal ?_
  have HP3 := Lib.hid ((HB3.out.block (w.heap.size + 1 + 1) (by rw [HSZ.out]; omega)).trans HP1.out)
  have HB4 := Lib.hid (HB1.out.trans (HB3.out.mono HB1.out.size))
  have HS3 := Lib.hid (HSM.out w3 _ HX3.out.1)
  clear KA TA HP1 HB1 HB2 HB3 HSZ HC HSM HSV HN
  go_wp2_with fail
  refine HS3.out.mono ?_
  rintro e w4 ⟨rfl, hb4⟩
  have HB5 := Lib.hid (HB4.out.trans (hb4.mono HB4.out.size))
  have HP4 := Lib.hid ((hb4.block (w.heap.size + 1 + 1) (lt_of_block HP3.out)).trans HP3.out)
  have HX4 := Lib.hid (And.intro (HX3.out.1.kept hb4) HX3.out.2)
  clear hb4 HB4 HP3 HX3 HS3
  go_wp2_with (first
    | (with_reducible refine wpList_build_run (o := ⟨some 47, _, _, _, _, _⟩) rfl 41 _ rfl #[(0, .int .u32 (c : Int)), (1, .int .u64 (a : Int)), (2, .agg HU)] (by simp [Act.eval]) (.agg PR) (HBD.out _) ?_)
    | (with_reducible refine wpList_store_row (o := ⟨none, .store _ (.tmp 11) _, _, _, _, _⟩) rfl 41 _ _ rfl (w.heap.size + 1 + 1) PR rfl rfl 41 PZ HP4.out SZ.out SE.out SO.out ?_))
  exact bodyPost_ret (v := .tuple #[.slice b3 512 cap3, .agg PR, .int .i64 0]) (results_three Tryd.results15 _ _ (w.heap.size + 1 + 1) 41 PR (0, 0) _ rfl (setRow_heap _ (w.heap.size + 1 + 1) _ PR _ _ HP4.out) Tryd.underlying41 rfl SZ.out _ _ rfl rfl) rfl
    ⟨b3, cap3, by rw [HPR.out], bs_row HX4.out.1 (fun x hx => by have := HX4.out.2.2.2 x hx; omega), HX4.out.2.1, HX4.out.2.2.1, fun x hx => by have := HX4.out.2.2.2 x hx; omega, ybelow_row HB5.out (by omega) _⟩

set_option maxRecDepth 100000 in
set_option maxHeartbeats 3200000 in
theorem pseal_bad (k m : List (BitVec 8)) (a c : Nat) (ad : Option Addr) (n cap : Nat) (w : World) (h : ¬ mayS n a c) :
    Calls Tryd.prog 14 #[.agg (yvs (k ++ m)), .int .u64 (a : Int), .int .u32 (c : Int), .slice ad n cap] w fun e w' => e = .returned (.tuple #[.slice none 0 0, .agg (ptrRow zeroPtr).toArray, .int .i64 2]) ∧ Below w.heap.size w w' := by
  obtain ⟨hA0, hP0, hsz, hb0⟩ := ytwo w (.cells (yvs (k ++ m)) 28) (.cells (ptrRow zeroPtr).toArray 41)
  have HP1 := Lib.hid hP0
  have HB1 := Lib.hid hb0
  have SZ := Lib.hid (size_ptrA zeroPtr)
  have SO := Lib.hid (ptrRow_one zeroPtr)
  have HBN := Lib.hid build_none
  have hz := zero_ptr
  have hcases : n ≠ 512 ∨ (n = 512 ∧ a = 0) ∨ (n = 512 ∧ a ≠ 0 ∧ c < 2) ∨ (n = 512 ∧ a ≠ 0 ∧ 2 ≤ c ∧ 4096 ≤ c) := by unfold mayS at h; omega
  clear hA0 hP0 hsz hb0 h
  generalize (ptrRow zeroPtr).toArray = PZ at *
  generalize yvs (k ++ m) = KM at *
  generalize hw1 : (w.alloc (.cells (KM) 28)).alloc (.cells PZ 41) = w1 at *
  rcases hcases with h | ⟨h, h2⟩ | ⟨h, h2, h3⟩ | ⟨h, h2, h3, h4⟩
  · have h1 : ((n : Int) != 512) = true := by simp; omega
    clear h
    go_enter Tryd.func14, Tryd.ntmps14
    go_upto_region 1 with fail
    try rw [hw1]
    clear hw1 hz
    go_wp2_with (first
      | (with_reducible refine wpList_build_run (o := ⟨some 27, _, _, _, _, _⟩) rfl 41 _ rfl #[] (by simp) (.agg PZ) (HBN.out _) ?_)
      | (with_reducible refine wpList_store_row (o := ⟨none, .store _ (.tmp 9) _, _, _, _, _⟩) rfl 41 _ _ rfl (w.heap.size + 1) PZ rfl rfl 41 PZ HP1.out SZ.out rfl SO.out ?_))
    exact bodyPost_ret (v := .tuple #[.slice none 0 0, .agg PZ, .int .i64 2]) (results_three Tryd.results14 _ _ (w.heap.size + 1) 41 PZ (0, 0) _ rfl (setRow_heap _ (w.heap.size + 1) _ PZ _ _ HP1.out) Tryd.underlying41 rfl SZ.out _ _ rfl rfl) rfl
      ⟨rfl, ybelow_row HB1.out (by omega) _⟩
  · have a0 : ((a : Int) == 0) = true := by simp; omega
    subst h
    clear h2
    go_enter Tryd.func14, Tryd.ntmps14
    go_upto_region 1 with fail
    try rw [hw1]
    clear hw1 hz
    go_wp2_with (first
      | (with_reducible refine wpList_build_run (o := ⟨some 27, _, _, _, _, _⟩) rfl 41 _ rfl #[] (by simp) (.agg PZ) (HBN.out _) ?_)
      | (with_reducible refine wpList_store_row (o := ⟨none, .store _ (.tmp 9) _, _, _, _, _⟩) rfl 41 _ _ rfl (w.heap.size + 1) PZ rfl rfl 41 PZ HP1.out SZ.out rfl SO.out ?_))
    exact bodyPost_ret (v := .tuple #[.slice none 0 0, .agg PZ, .int .i64 2]) (results_three Tryd.results14 _ _ (w.heap.size + 1) 41 PZ (0, 0) _ rfl (setRow_heap _ (w.heap.size + 1) _ PZ _ _ HP1.out) Tryd.underlying41 rfl SZ.out _ _ rfl rfl) rfl
      ⟨rfl, ybelow_row HB1.out (by omega) _⟩
  · have a0 : ((a : Int) == 0) = false := by simp; omega
    have c2 : (c : Int) < 2 := by omega
    subst h
    clear h2 h3
    go_enter Tryd.func14, Tryd.ntmps14
    go_upto_region 1 with fail
    try rw [hw1]
    clear hw1 hz
    go_wp2_with (first
      | (with_reducible refine wpList_build_run (o := ⟨some 27, _, _, _, _, _⟩) rfl 41 _ rfl #[] (by simp) (.agg PZ) (HBN.out _) ?_)
      | (with_reducible refine wpList_store_row (o := ⟨none, .store _ (.tmp 9) _, _, _, _, _⟩) rfl 41 _ _ rfl (w.heap.size + 1) PZ rfl rfl 41 PZ HP1.out SZ.out rfl SO.out ?_))
    exact bodyPost_ret (v := .tuple #[.slice none 0 0, .agg PZ, .int .i64 2]) (results_three Tryd.results14 _ _ (w.heap.size + 1) 41 PZ (0, 0) _ rfl (setRow_heap _ (w.heap.size + 1) _ PZ _ _ HP1.out) Tryd.underlying41 rfl SZ.out _ _ rfl rfl) rfl
      ⟨rfl, ybelow_row HB1.out (by omega) _⟩
  · have a0 : ((a : Int) == 0) = false := by simp; omega
    have c2 : (2 : Int) ≤ (c : Int) := by omega
    have c4 : (4096 : Int) ≤ (c : Int) := by omega
    subst h
    clear h2 h3 h4
    go_enter Tryd.func14, Tryd.ntmps14
    go_upto_region 1 with fail
    try rw [hw1]
    clear hw1 hz
    go_wp2_with (first
      | (with_reducible refine wpList_build_run (o := ⟨some 27, _, _, _, _, _⟩) rfl 41 _ rfl #[] (by simp) (.agg PZ) (HBN.out _) ?_)
      | (with_reducible refine wpList_store_row (o := ⟨none, .store _ (.tmp 9) _, _, _, _, _⟩) rfl 41 _ _ rfl (w.heap.size + 1) PZ rfl rfl 41 PZ HP1.out SZ.out rfl SO.out ?_))
    exact bodyPost_ret (v := .tuple #[.slice none 0 0, .agg PZ, .int .i64 2]) (results_three Tryd.results14 _ _ (w.heap.size + 1) 41 PZ (0, 0) _ rfl (setRow_heap _ (w.heap.size + 1) _ PZ _ _ HP1.out) Tryd.underlying41 rfl SZ.out _ _ rfl rfl) rfl
      ⟨rfl, ybelow_row HB1.out (by omega) _⟩
set_option maxRecDepth 100000 in
set_option maxHeartbeats 3200000 in
theorem rseal_bad (k m : List (BitVec 8)) (a c : Nat) (ad : Option Addr) (n cap : Nat) (w : World) (h : ¬ mayS n a c) :
    Calls Tryd.prog 15 #[.agg (yvs boxesL), .agg (yvs (k ++ m)), .int .u64 (a : Int), .int .u32 (c : Int), .slice ad n cap] w fun e w' => e = .returned (.tuple #[.slice none 0 0, .agg (ptrRow zeroPtr).toArray, .int .i64 2]) ∧ Below w.heap.size w w' := by
  obtain ⟨hT0, hA0, hP0, hsz, hb0⟩ := ythree w (.cells (yvs boxesL) 38) (.cells (yvs (k ++ m)) 31) (.cells (ptrRow zeroPtr).toArray 41)
  have HP1 := Lib.hid hP0
  have HB1 := Lib.hid hb0
  have SZ := Lib.hid (size_ptrA zeroPtr)
  have SO := Lib.hid (ptrRow_one zeroPtr)
  have HBN := Lib.hid build_none
  have hz := zero_ptr
  have hcases : n ≠ 512 ∨ (n = 512 ∧ a = 0) ∨ (n = 512 ∧ a ≠ 0 ∧ c < 2) ∨ (n = 512 ∧ a ≠ 0 ∧ 2 ≤ c ∧ 4096 ≤ c) := by unfold mayS at h; omega
  clear hA0 hP0 hsz hb0 hT0 h
  generalize (ptrRow zeroPtr).toArray = PZ at *
  generalize yvs (k ++ m) = KM at *
  generalize yvs boxesL = TBL at *
  generalize hw1 : ((w.alloc (.cells TBL 38)).alloc (.cells (KM) 31)).alloc (.cells PZ 41) = w1 at *
  rcases hcases with h | ⟨h, h2⟩ | ⟨h, h2, h3⟩ | ⟨h, h2, h3, h4⟩
  · have h1 : ((n : Int) != 512) = true := by simp; omega
    clear h
    go_enter Tryd.func15, Tryd.ntmps15
    go_upto_region 1 with fail
    try rw [hw1]
    clear hw1 hz
    go_wp2_with (first
      | (with_reducible refine wpList_build_run (o := ⟨some 30, _, _, _, _, _⟩) rfl 41 _ rfl #[] (by simp) (.agg PZ) (HBN.out _) ?_)
      | (with_reducible refine wpList_store_row (o := ⟨none, .store _ (.tmp 11) _, _, _, _, _⟩) rfl 41 _ _ rfl (w.heap.size + 1 + 1) PZ rfl rfl 41 PZ HP1.out SZ.out rfl SO.out ?_))
    exact bodyPost_ret (v := .tuple #[.slice none 0 0, .agg PZ, .int .i64 2]) (results_three Tryd.results15 _ _ (w.heap.size + 1 + 1) 41 PZ (0, 0) _ rfl (setRow_heap _ (w.heap.size + 1 + 1) _ PZ _ _ HP1.out) Tryd.underlying41 rfl SZ.out _ _ rfl rfl) rfl
      ⟨rfl, ybelow_row HB1.out (by omega) _⟩
  · have a0 : ((a : Int) == 0) = true := by simp; omega
    subst h
    clear h2
    go_enter Tryd.func15, Tryd.ntmps15
    go_upto_region 1 with fail
    try rw [hw1]
    clear hw1 hz
    go_wp2_with (first
      | (with_reducible refine wpList_build_run (o := ⟨some 30, _, _, _, _, _⟩) rfl 41 _ rfl #[] (by simp) (.agg PZ) (HBN.out _) ?_)
      | (with_reducible refine wpList_store_row (o := ⟨none, .store _ (.tmp 11) _, _, _, _, _⟩) rfl 41 _ _ rfl (w.heap.size + 1 + 1) PZ rfl rfl 41 PZ HP1.out SZ.out rfl SO.out ?_))
    exact bodyPost_ret (v := .tuple #[.slice none 0 0, .agg PZ, .int .i64 2]) (results_three Tryd.results15 _ _ (w.heap.size + 1 + 1) 41 PZ (0, 0) _ rfl (setRow_heap _ (w.heap.size + 1 + 1) _ PZ _ _ HP1.out) Tryd.underlying41 rfl SZ.out _ _ rfl rfl) rfl
      ⟨rfl, ybelow_row HB1.out (by omega) _⟩
  · have a0 : ((a : Int) == 0) = false := by simp; omega
    have c2 : (c : Int) < 2 := by omega
    subst h
    clear h2 h3
    go_enter Tryd.func15, Tryd.ntmps15
    go_upto_region 1 with fail
    try rw [hw1]
    clear hw1 hz
    go_wp2_with (first
      | (with_reducible refine wpList_build_run (o := ⟨some 30, _, _, _, _, _⟩) rfl 41 _ rfl #[] (by simp) (.agg PZ) (HBN.out _) ?_)
      | (with_reducible refine wpList_store_row (o := ⟨none, .store _ (.tmp 11) _, _, _, _, _⟩) rfl 41 _ _ rfl (w.heap.size + 1 + 1) PZ rfl rfl 41 PZ HP1.out SZ.out rfl SO.out ?_))
    exact bodyPost_ret (v := .tuple #[.slice none 0 0, .agg PZ, .int .i64 2]) (results_three Tryd.results15 _ _ (w.heap.size + 1 + 1) 41 PZ (0, 0) _ rfl (setRow_heap _ (w.heap.size + 1 + 1) _ PZ _ _ HP1.out) Tryd.underlying41 rfl SZ.out _ _ rfl rfl) rfl
      ⟨rfl, ybelow_row HB1.out (by omega) _⟩
  · have a0 : ((a : Int) == 0) = false := by simp; omega
    have c2 : (2 : Int) ≤ (c : Int) := by omega
    have c4 : (4096 : Int) ≤ (c : Int) := by omega
    subst h
    clear h2 h3 h4
    go_enter Tryd.func15, Tryd.ntmps15
    go_upto_region 1 with fail
    try rw [hw1]
    clear hw1 hz
    go_wp2_with (first
      | (with_reducible refine wpList_build_run (o := ⟨some 30, _, _, _, _, _⟩) rfl 41 _ rfl #[] (by simp) (.agg PZ) (HBN.out _) ?_)
      | (with_reducible refine wpList_store_row (o := ⟨none, .store _ (.tmp 11) _, _, _, _, _⟩) rfl 41 _ _ rfl (w.heap.size + 1 + 1) PZ rfl rfl 41 PZ HP1.out SZ.out rfl SO.out ?_))
    exact bodyPost_ret (v := .tuple #[.slice none 0 0, .agg PZ, .int .i64 2]) (results_three Tryd.results15 _ _ (w.heap.size + 1 + 1) 41 PZ (0, 0) _ rfl (setRow_heap _ (w.heap.size + 1 + 1) _ PZ _ _ HP1.out) Tryd.underlying41 rfl SZ.out _ _ rfl rfl) rfl
      ⟨rfl, ybelow_row HB1.out (by omega) _⟩
/-- What is answered: bytes, their pointer, an error. -/
def sealA (k : List (BitVec 8)) (a c : Nat) (l : List (BitVec 8)) : List (BitVec 8) × PtrV × Int := if mayS l.length a c then (sealS k a c l, ptrOf a c ((sealS k a c l).map yv), 0) else ([], zeroPtr, 2)
/-- Some bytes with an end, in a slice. -/
def Bts (w : World) (a : Option Addr) (n c : Nat) (l : List (BitVec 8)) : Prop := BS w (.slice a n c) (l.map yv) ∧ l.length = n ∧ n ≤ c ∧ c ≤ 9223372036854775807
theorem Bts.below {w w' : World} {a : Option Addr} {n c : Nat} {l : List (BitVec 8)} (h : Bts w a n c l) (hb : Below w.heap.size w w') : Bts w' a n c l := ⟨h.1.kept hb, h.2⟩
theorem Bts.nil (w : World) : Bts w none 0 0 [] := ⟨bs_nil w, rfl, Nat.le_refl _, by decide⟩
theorem Bts.arr {w : World} {g t n : Nat} {l : List (BitVec 8)} (h : ArrY w g t l) (hn : l.length = n) (hs : n ≤ 9223372036854775807) : Bts w (some ⟨g, 0, none⟩) n n l := ⟨BS.of_arr0 h hn, hn, Nat.le_refl _, hs⟩
theorem pseal12_any (k m : List (BitVec 8)) (a c : Nat) (l : List (BitVec 8)) (ad : Option Addr) (n cap : Nat) (w : World) (hK : KT w) (hk : k.length = 32) (hm : m.length = 32) (hB : Bts w ad n cap l) (ha : a < 18446744073709551616) (hc : c < 4294967296) :
    Calls Tryd.prog 14 #[.agg (yvs (k ++ m)), .int .u64 (a : Int), .int .u32 (c : Int), .slice ad n cap] w fun e w' => ∃ x y z, e = .returned (.tuple #[.slice x y z, .agg (ptrRow (sealA k a c l).2.1).toArray, .int .i64 (sealA k a c l).2.2]) ∧ Bts w' x y z (sealA k a c l).1 ∧ Below w.heap.size w w' := by
  obtain ⟨b1, rfl, b3, b4⟩ := hB
  unfold sealA
  by_cases h : mayS l.length a c
  · rw [if_pos h]
    obtain ⟨h1, h2, h3, h4⟩ := h
    rw [h1] at b1 ⊢
    exact (pseal_ok k m a c l ad cap w hK hk hm h1 b1 ha h2 h3 h4).mono fun e w' ⟨g, hg, he, hA, hb⟩ => ⟨_, _, _, he, Bts.arr hA (sealS_length k a c l h1) (by decide), hb⟩
  · rw [if_neg h]
    exact (pseal_bad k m a c ad l.length cap w h).mono fun e w' ⟨he, hb⟩ => ⟨_, _, _, he, Bts.nil w', hb⟩
theorem rseal12_any (k m : List (BitVec 8)) (a c : Nat) (l : List (BitVec 8)) (ad : Option Addr) (n cap : Nat) (w : World) (hk : k.length = 32) (hm : m.length = 32) (hB : Bts w ad n cap l) (ha : a < 18446744073709551616) (hc : c < 4294967296) :
    Calls Tryd.prog 15 #[.agg (yvs boxesL), .agg (yvs (k ++ m)), .int .u64 (a : Int), .int .u32 (c : Int), .slice ad n cap] w fun e w' => ∃ x y z, e = .returned (.tuple #[.slice x y z, .agg (ptrRow (sealA k a c l).2.1).toArray, .int .i64 (sealA k a c l).2.2]) ∧ Bts w' x y z (sealA k a c l).1 ∧ Below w.heap.size w w' := by
  obtain ⟨b1, rfl, b3, b4⟩ := hB
  unfold sealA
  by_cases h : mayS l.length a c
  · rw [if_pos h]
    obtain ⟨h1, h2, h3, h4⟩ := h
    rw [h1] at b1 ⊢
    exact (rseal_ok k m a c l ad cap w hk hm h1 b1 ha h2 h3 h4).mono fun e w' ⟨x, z, he, hB, hc1, hc2, _, hb⟩ => ⟨_, _, _, he, ⟨hB, sealS_length k a c l h1, hc1, hc2⟩, hb⟩
  · rw [if_neg h]
    exact (rseal_bad k m a c ad l.length cap w h).mono fun e w' ⟨he, hb⟩ => ⟨_, _, _, he, Bts.nil w', hb⟩
end Go.Proofs.YtfgdddejpdjllaaDoor
