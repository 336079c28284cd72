import Derived.Test.YtgckapolpifbkaaGreatDoorWb
import Derived.Test.YtgckapolpifbkaaGreatDoorEg
import Derived.Deep.DeepCutAuto
namespace Go.Proofs.YtgckapolpifbkaaGreatDoor
open Lib (hid)
set_option maxRecDepth 4000
set_option linter.unusedVariables false
open Go.RowKit
def LayPost (D gl bm n : Nat) (vw : Value) (V : List (BitVec 8)) (ws : List (Nat × List (BitVec 8))) (lim : Int) (dn : Bool) (a : Nat) (S : List (BitVec 8)) (PT : PtrV) (w : World) (e : Ending) (w' : World) : Prop :=
 ((goP lim dn).2 = true ∧ e = .returned (.tuple #[.agg (ptrRow zeroPtr).toArray,.int .i64 7]) ∧ PD w' D gl bm n vw V ws (goP lim dn).1 true ∧ Touch (pfp D gl bm vw) w w') ∨
 ((goP lim dn).2 = false ∧ e = .returned (.tuple #[.agg (ptrRow PT).toArray,.int .i64 0]) ∧ ∃ vw',PD w' D gl bm n vw' V (ws ++ [(a,S)]) (goP lim dn).1 false ∧ Touch (pfp D gl bm vw) w w' ∧ ∀ g,vw'.ownBlock = some g → vw.ownBlock = some g ∨ w.heap.size ≤ g)
theorem goP_not {lim : Int} {dn : Bool} (h : (goP lim dn).2 = false) : dn = false ∧ lim ≠ 0 := by
 unfold goP at h
 simp only [Bool.or_eq_false_iff,decide_eq_false_iff_not] at h
 exact h
theorem touch_only {w w' : World} {l : List Nat} {k : Nat} (q : Only k w w') (hk : k ∈ l) : Touch l w w' := (Touch.of_only q (List.mem_singleton.2 rfl)).more (by simpa using hk)
theorem setRow_touch (w : World) (k : Nat) (row : Array Value) : Touch [k] w (w.setRow k row) :=
 have q := ybelow_row (Below.refl k w) (Nat.le_refl _) row
 ⟨q.os,q.tape,q.output,q.size,fun i _ hn => setRow_other _ _ _ _ (fun e => hn (by simp [e]))⟩
theorem Touch.trans_new {l : List Nat} {w a b : World} (h : Touch l w a) (q : Below w.heap.size a b) : Touch l w b :=
 ⟨q.os.trans h.os,q.tape.trans h.tape,q.output.trans h.output,Nat.le_trans h.size q.size,fun k hk hn => (q.block k hk).trans (h.block k hk hn)⟩
theorem PL.rangeL {w : World} {P D n b : Nat} {ks : List (BitVec 8)} {F : Nat → Bool} (h : PL w P D n ks F b) : w.rangeAt P 1 (yvs ks).toList ∧ w.cell? ⟨P,130,none⟩ = some (.int .u64 (b : Int)) := ⟨h.keys,h.birth⟩
set_option maxRecDepth 100000 in
set_option maxHeartbeats 3200000 in
theorem play_any (P D gl bm n b a cap : Nat) (vw : Value) (V : List (BitVec 8)) (ws : List (Nat × List (BitVec 8))) (lim : Int) (dn : Bool) (k m : List (BitVec 8)) (F : Nat → Bool) (l : List (BitVec 8)) (ad : Option Addr) (w : World)
 (hp : PL w P D n (k ++ m) F b) (hd : PD w D gl bm n vw V ws lim dn) (hK : KT w) (hk : k.length = 32) (hm : m.length = 32) (hl : l.length = 512) (hB : BS w (.slice ad 512 cap) (l.map yv)) (hb : b < 18446744073709551616) (hb0 : b ≠ 0) (ha2 : 2 ≤ a) (han : a < n) (hws : ws.length ≤ 1000000) :
 Calls Tryz.prog 80 #[.pointer (some ⟨P,0,none⟩),.int .u32 (a : Int),.slice ad 512 cap] w (LayPost D gl bm n vw V ws lim dn a (sealS k b a l) (ptrOf12 b a ((sealS k b a l).map yv)) w) := by
 have hn := hp.sp.hi
 have HAN := hid han
 have HWS := hid hws
 have HSL := hid (sealS_length k b a l hl)
 have hb1 := (Below.refl w.heap.size w).alloc (Nat.le_refl _) (.cells (ptrRow zeroPtr).toArray 43)
 have hq0 := heap_alloc_new w (.cells (ptrRow zeroPtr).toArray 43)
 have HSE := hid (fun (W : World) (hW : Below w.heap.size w W) => pseal_ok k m b a l ad cap W (hK.below hW hK.pos) hk hm hl (hB.kept hW) hb hb0 ha2 (by omega))
 have HPL := hid (fun (W : World) (hW : Below w.heap.size w W) => hp.below hW)
 have HPD := hid (fun (W : World) (hW : Below w.heap.size w W) => hd.below hW)
 have hz := zero_ptr
 have SZ := hid (size_ptrA (ptrOf12 b a ((sealS k b a l).map yv)))
 have SZ0 := hid (size_ptrA zeroPtr)
 have SE := hid (show (ptrRow zeroPtr).toArray.size = (ptrRow (ptrOf12 b a ((sealS k b a l).map yv))).toArray.size by simp [ptrRow_length])
 have SO := hid (ptrRow_one (ptrOf12 b a ((sealS k b a l).map yv)))
 have SO0 := hid (ptrRow_one zeroPtr)
 have HBN := hid build_none
 have IK := hid (info_keys64 (k ++ m) hp.kl)
 generalize sealS k b a l = S at *
 generalize ptrOf12 b a (S.map yv) = PT at *
 generalize hPR : (ptrRow PT).toArray = PR at *
 have HPR := hid hPR
 generalize hPZ : (ptrRow zeroPtr).toArray = PZ at *
 have HPZ := hid hPZ
 generalize hw1 : w.alloc (.cells PZ 43) = w1 at *
 have HB1 := hid hb1
 have HQ0 := hid hq0
 clear hb1 hq0 hPR hPZ hn hp hd hK hk hm hl hB hb hb0 ha2 han hws
 go_enter Tryz.func80,Tryz.ntmps80
 go_upto_region 1 with fail
 try rw [hw1]
 clear hw1
 have HSV := hid (fun (W : World) (hW : Below w1.heap.size w1 W) => (HPL.out W (HB1.out.trans (hW.mono HB1.out.size))).rangeL)
 have HSC := hid (fun (W : World) (hW : Below w1.heap.size w1 W) => HSE.out W (HB1.out.trans (hW.mono HB1.out.size)))
 clear HSE
 go_cut [8,9,10] from 12 (fun v8 v9 v10 wc => ∃ c q,v8 = .slice (some ⟨c,0,none⟩) 512 512 ∧ v9 = .pointer (some ⟨q,0,none⟩) ∧ v10 = .int .i64 0 ∧ SD w1 wc c q S PT)
 case first =>
  try simp only [Act.put]
  refine wp_region_noPanic ?_
  refine wp_region_held_drew (S := fun W => W.rangeAt P 1 (yvs (k ++ m)).toList ∧ W.cell? ⟨P,130,none⟩ = some (.int .u64 (b : Int))) (by kernel_rfl) (HSV.out _ (Below.refl _ w1).drew) (fun hHeld => ?_)
  refine wpAnyH_take (i := 0) (oi := ⟨some 13,_,_,_,_,_⟩) (v := ?_) rfl (by kernel_rfl) (by decide +kernel) (by decide +kernel) (fun _ _ _ h => h) (Or.inl ⟨by rfl, ?_⟩) (by assumption) ?_
  rotate_left 1
  ·(intro w' hSw; go_simp; try with_reducible rfl)
  try simp only [Act.put,List.setIfInBounds_toArray,List.set_cons_zero,List.set_cons_succ]
  refine wpAnyH_take (i := 1) (oi := ⟨some 14,_,_,_,_,_⟩) (v := ?_) rfl (by kernel_rfl) (by decide +kernel) (by decide +kernel) (fun _ _ _ h => h) (Or.inl ⟨by rfl, ?_⟩) (by assumption) ?_
  rotate_left 1
  ·(intro w' hSw; go_simp; try with_reducible rfl)
  try simp only [Act.put,List.setIfInBounds_toArray,List.set_cons_zero,List.set_cons_succ]
  refine wpAnyH_take (i := 2) (oi := ⟨some 15,_,_,_,_,_⟩) (v := ?_) rfl (by kernel_rfl) (by decide +kernel) (by decide +kernel) (fun _ _ _ h => h) (Or.inl ⟨by rfl, ?_⟩) (by assumption) ?_
  rotate_left 1
  ·(intro w' hSw; go_simp; try with_reducible rfl)
  try simp only [Act.put,List.setIfInBounds_toArray,List.set_cons_zero,List.set_cons_succ]
  refine wpAnyH_take (i := 3) (oi := ⟨some 16,_,_,_,_,_⟩) rfl (by kernel_rfl) (by decide +kernel) (by decide +kernel) (fun _ _ _ h => h) (yieldsIf_load_mid (by rfl) _ _ rfl P 1 rfl (yvs (k ++ m)).toList _ (fun w' h => h.1) Tryz.underlying30 rfl IK.out) (by assumption) ?_
  try simp only [Act.put,List.setIfInBounds_toArray,List.set_cons_zero,List.set_cons_succ,Array.toArray_toList]
  refine wpAnyH_take (i := 4) (oi := ⟨some 17,_,_,_,_,_⟩) (v := ?_) rfl (by kernel_rfl) (by decide +kernel) (by decide +kernel) (fun _ _ _ h => h) (Or.inl ⟨by rfl, ?_⟩) (by assumption) ?_
  rotate_left 1
  ·(intro w' hSw; go_simp; try with_reducible rfl)
  try simp only [Act.put,List.setIfInBounds_toArray,List.set_cons_zero,List.set_cons_succ]
  refine wpAnyH_take (i := 5) (oi := ⟨some 18,_,_,_,_,_⟩) (v := ?_) rfl (by kernel_rfl) (by decide +kernel) (by decide +kernel) (fun _ _ _ h => h) (Or.inl ⟨by rfl, ?_⟩) (by assumption) ?_
  rotate_left 1
  ·(intro w' hSw; go_simp; try with_reducible rfl)
  try simp only [Act.put,List.setIfInBounds_toArray,List.set_cons_zero,List.set_cons_succ]
  refine wpAnyH_take (i := 6) (oi := ⟨some 19,_,_,_,_,_⟩) (v := ?_) rfl (by kernel_rfl) (by decide +kernel) (by decide +kernel) (fun _ _ _ h => h) (Or.inl ⟨by rfl, ?_⟩) (by assumption) ?_
  rotate_left 1
  ·(intro w' hSw; go_simp; try with_reducible rfl)
  try simp only [Act.put,List.setIfInBounds_toArray,List.set_cons_zero,List.set_cons_succ]
  refine wpAnyH_take (i := 7) (oi := ⟨some 20,_,_,_,_,_⟩) (v := ?_) rfl (by kernel_rfl) (by decide +kernel) (by decide +kernel) (fun _ _ _ h => h) (Or.inl ⟨by rfl, ?_⟩) (by assumption) ?_
  rotate_left 1
  ·(intro w' hSw; have hc := hSw.2; clear hSw; go_simp; try with_reducible rfl)
  try simp only [Act.put,List.setIfInBounds_toArray,List.set_cons_zero,List.set_cons_succ]
  refine wpAnyH_take (i := 8) (oi := ⟨some 21,_,_,_,_,_⟩) (v := ?_) rfl (by kernel_rfl) (by decide +kernel) (by decide +kernel) (fun _ _ _ h => h) (Or.inl ⟨by rfl, ?_⟩) (by assumption) ?_
  rotate_left 1
  ·(intro w' hSw; go_simp; try with_reducible rfl)
  try simp only [Act.put,List.setIfInBounds_toArray,List.set_cons_zero,List.set_cons_succ]
  refine wpAnyH_take (i := 9) (oi := ⟨some 22,_,_,_,_,_⟩) (v := ?_) rfl (by kernel_rfl) (by decide +kernel) (by decide +kernel) (fun _ _ _ h => h) (Or.inl ⟨by rfl, ?_⟩) (by assumption) ?_
  rotate_left 1
  ·(intro w' hSw; go_simp; try with_reducible rfl)
  try simp only [Act.put,List.setIfInBounds_toArray,List.set_cons_zero,List.set_cons_succ]
  clear hHeld
  have HB0 := hid (Below.refl w1.heap.size w1).drew
  refine wpAnyH_ready (rs := [10,15]) (by decide +kernel) (by simp) ?_
  refine AllReadyH.cons rfl (fun K hK => ?_) (AllReadyH.cons rfl (fun K hK => ?_) AllReadyH.nil)
  ·go_simp
   go_at_call 104
   refine (HSC.out _ HB0.out).mono ?_
   intro e wA1 hso
   unfold SealOf at hso
   rw [HPR.out] at hso
   obtain ⟨cA1,hgc,rfl,hA,hst⟩ := hso
   have HBA1 := hid (HB0.out.trans (hst.mono HB0.out.size))
   have HCA1 := hid hA
   have HGCA1 := hid (Nat.le_trans HB0.out.size hgc)
   clear hA hst hgc
   go_wp2_with fail
   refine hK.out _ _ (HSV.out _ HBA1.out) (fun hHeld => ?_)
   clear hK K
   try simp only [Act.put,List.setIfInBounds_toArray,List.set_cons_zero,List.set_cons_succ]
   refine wpAnyH_take (i := 11) (oi := ⟨some 12,_,_,_,_,_⟩) (v := ?_) rfl (by kernel_rfl) (by decide +kernel) (by decide +kernel) (fun _ _ _ h => h) (Or.inl ⟨by rfl, ?_⟩) (by assumption) ?_
   rotate_left 1
   ·(intro w' hSw; go_simp; try with_reducible rfl)
   try simp only [Act.put,List.setIfInBounds_toArray,List.set_cons_zero,List.set_cons_succ]
   refine wpAnyH_take (i := 12) (oi := ⟨some 24,_,_,_,_,_⟩) (v := ?_) rfl (by kernel_rfl) (by decide +kernel) (by decide +kernel) (fun _ _ _ h => h) (Or.inl ⟨by rfl, ?_⟩) (by assumption) ?_
   rotate_left 1
   ·(intro w' hSw; go_simp; try with_reducible rfl)
   try simp only [Act.put,List.setIfInBounds_toArray,List.set_cons_zero,List.set_cons_succ]
   refine wpAnyH_take (i := 13) (oi := ⟨some 25,_,_,_,_,_⟩) (v := ?_) rfl (by kernel_rfl) (by decide +kernel) (by decide +kernel) (fun _ _ _ h => h) (Or.inl ⟨by rfl, ?_⟩) (by assumption) ?_
   rotate_left 1
   ·(intro w' hSw; go_simp; try with_reducible rfl)
   try simp only [Act.put,List.setIfInBounds_toArray,List.set_cons_zero,List.set_cons_succ]
   refine wpAnyH_take (i := 14) (oi := ⟨some 26,_,_,_,_,_⟩) (v := ?_) rfl (by kernel_rfl) (by decide +kernel) (by decide +kernel) (fun _ _ _ h => h) (Or.inl ⟨by rfl, ?_⟩) (by assumption) ?_
   rotate_left 1
   ·(intro w' hSw; go_simp; try with_reducible rfl)
   try simp only [Act.put,List.setIfInBounds_toArray,List.set_cons_zero,List.set_cons_succ]
   clear hHeld
   refine wpAnyH_ready (rs := [15]) (by decide +kernel) (by simp) ?_
   refine AllReadyH.cons rfl (fun K hK => ?_) AllReadyH.nil
   go_simp
   have hal := HBA1.out.alloc HBA1.out.size (.cells PZ 43)
   have hxl := heap_alloc_new (wA1) (.cells PZ 43)
   have hst := (Below.refl (wA1).heap.size (wA1)).alloc (Nat.le_refl _) (.cells PZ 43)
   refine hK.out _ _ (HSV.out _ hal) (fun hHeld => ?_)
   clear hK K hHeld
   try simp only [Act.put,List.setIfInBounds_toArray,List.set_cons_zero,List.set_cons_succ]
   refine (show ∀ wA2 : World,wA2 = (wA1).alloc (.cells PZ 43) → _ from ?_) _ rfl
   intro wA2 ew
   rw [← ew] at hal hxl hst
   have HQA2 := hid (show wA2.heap[wA1.heap.size]? = _ from hxl)
   have HGQA2 := hid (show w1.heap.size ≤ wA1.heap.size from HBA1.out.size)
   have HBA2 := hid hal
   have HNEA2 := hid (show cA1 ≠ wA1.heap.size from Nat.ne_of_lt (lt_of_block HCA1.out))
   have HCA2 := hid ((hst.block _ (lt_of_block HCA1.out)).trans HCA1.out)
   clear ew hal hxl hst
   have hHeld := HSV.out _ HBA2.out
   refine wpAnyH_take (i := 16) (oi := ⟨some 8,_,_,_,_,_⟩) (v := ?_) rfl (by kernel_rfl) (by decide +kernel) (by decide +kernel) (fun _ _ _ h => h) (Or.inl ⟨by rfl, ?_⟩) (by assumption) ?_
   rotate_left 1
   ·(intro w' hSw; go_simp; try with_reducible rfl)
   try simp only [Act.put,List.setIfInBounds_toArray,List.set_cons_zero,List.set_cons_succ]
   clear hHeld
   refine wpAnyH_ready (rs := [17]) (by decide +kernel) (by simp) ?_
   refine AllReadyH.cons rfl (fun K hK => ?_) AllReadyH.nil
   rw [if_pos (by kernel_rfl)]
   refine wp_store_row (o := ⟨none,.store _ (.tmp 9) _,_,_,_,_⟩) 43 _ _ rfl (wA1.heap.size) PR rfl rfl 43 PZ (show (wA2).heap[wA1.heap.size]? = _ from HQA2.out) SZ.out SE.out SO.out ?_
   refine hK.out _ _ (HSV.out _ (ybelow_row HBA2.out HGQA2.out PR)) (fun hHeld => ?_)
   clear hK K
   simp only [Act.put]
   refine wpAnyH_take (i := 18) (oi := ⟨some 10,_,_,_,_,_⟩) (v := ?_) rfl (by kernel_rfl) (by decide +kernel) (by decide +kernel) (fun _ _ _ h => h) (Or.inl ⟨by rfl, ?_⟩) (by assumption) ?_
   rotate_left 1
   ·(intro w' hSw; go_simp; try with_reducible rfl)
   try simp only [Act.put,List.setIfInBounds_toArray,List.set_cons_zero,List.set_cons_succ]
   clear hHeld
   refine wpAnyH_done (by decide +kernel) ?_ _
   refine NoPanic.normal ?_
   go_wp2_with fail
   go_meet
   exact ⟨cA1,wA1.heap.size,rfl,rfl,rfl,⟨ybelow_row HBA2.out HGQA2.out PR,(setRow_other _ _ _ _ HNEA2.out).trans HCA2.out,by rw [HPR.out]; exact setRow_heap _ _ _ _ _ _ HQA2.out,HNEA2.out,HGCA1.out,HGQA2.out⟩⟩
  ·go_simp
   have hal := HB0.out.alloc HB0.out.size (.cells PZ 43)
   have hxl := heap_alloc_new (w1.drew) (.cells PZ 43)
   have hst := (Below.refl (w1.drew).heap.size (w1.drew)).alloc (Nat.le_refl _) (.cells PZ 43)
   refine hK.out _ _ (HSV.out _ hal) (fun hHeld => ?_)
   clear hK K hHeld
   try simp only [Act.put,List.setIfInBounds_toArray,List.set_cons_zero,List.set_cons_succ]
   refine (show ∀ wB1 : World,wB1 = (w1.drew).alloc (.cells PZ 43) → _ from ?_) _ rfl
   intro wB1 ew
   rw [← ew] at hal hxl hst
   have HQB1 := hid (show wB1.heap[w1.heap.size]? = _ from hxl)
   have HGQB1 := hid (show w1.heap.size ≤ w1.heap.size from HB0.out.size)
   have HBB1 := hid hal
   clear ew hal hxl hst
   refine wpAnyH_ready (rs := [10]) (by decide +kernel) (by simp) ?_
   refine AllReadyH.cons rfl (fun K hK => ?_) AllReadyH.nil
   go_simp
   go_at_call 104
   refine (HSC.out _ HBB1.out).mono ?_
   intro e wB2 hso
   unfold SealOf at hso
   rw [HPR.out] at hso
   obtain ⟨cB2,hgc,rfl,hA,hst⟩ := hso
   have HNEB2 := hid (show cB2 ≠ w1.heap.size from Ne.symm (Nat.ne_of_lt (Nat.lt_of_lt_of_le (lt_of_block HQB1.out) hgc)))
   have HQB2 := hid ((hst.block _ (lt_of_block HQB1.out)).trans HQB1.out)
   have HBB2 := hid (HBB1.out.trans (hst.mono HBB1.out.size))
   have HCB2 := hid hA
   have HGCB2 := hid (Nat.le_trans HBB1.out.size hgc)
   clear hA hst hgc
   go_wp2_with fail
   refine hK.out _ _ (HSV.out _ HBB2.out) (fun hHeld => ?_)
   clear hK K
   try simp only [Act.put,List.setIfInBounds_toArray,List.set_cons_zero,List.set_cons_succ]
   refine wpAnyH_take (i := 11) (oi := ⟨some 12,_,_,_,_,_⟩) (v := ?_) rfl (by kernel_rfl) (by decide +kernel) (by decide +kernel) (fun _ _ _ h => h) (Or.inl ⟨by rfl, ?_⟩) (by assumption) ?_
   rotate_left 1
   ·(intro w' hSw; go_simp; try with_reducible rfl)
   try simp only [Act.put,List.setIfInBounds_toArray,List.set_cons_zero,List.set_cons_succ]
   refine wpAnyH_take (i := 12) (oi := ⟨some 24,_,_,_,_,_⟩) (v := ?_) rfl (by kernel_rfl) (by decide +kernel) (by decide +kernel) (fun _ _ _ h => h) (Or.inl ⟨by rfl, ?_⟩) (by assumption) ?_
   rotate_left 1
   ·(intro w' hSw; go_simp; try with_reducible rfl)
   try simp only [Act.put,List.setIfInBounds_toArray,List.set_cons_zero,List.set_cons_succ]
   refine wpAnyH_take (i := 13) (oi := ⟨some 25,_,_,_,_,_⟩) (v := ?_) rfl (by kernel_rfl) (by decide +kernel) (by decide +kernel) (fun _ _ _ h => h) (Or.inl ⟨by rfl, ?_⟩) (by assumption) ?_
   rotate_left 1
   ·(intro w' hSw; go_simp; try with_reducible rfl)
   try simp only [Act.put,List.setIfInBounds_toArray,List.set_cons_zero,List.set_cons_succ]
   refine wpAnyH_take (i := 14) (oi := ⟨some 26,_,_,_,_,_⟩) (v := ?_) rfl (by kernel_rfl) (by decide +kernel) (by decide +kernel) (fun _ _ _ h => h) (Or.inl ⟨by rfl, ?_⟩) (by assumption) ?_
   rotate_left 1
   ·(intro w' hSw; go_simp; try with_reducible rfl)
   try simp only [Act.put,List.setIfInBounds_toArray,List.set_cons_zero,List.set_cons_succ]
   clear hHeld
   have hHeld := HSV.out _ HBB2.out
   refine wpAnyH_take (i := 16) (oi := ⟨some 8,_,_,_,_,_⟩) (v := ?_) rfl (by kernel_rfl) (by decide +kernel) (by decide +kernel) (fun _ _ _ h => h) (Or.inl ⟨by rfl, ?_⟩) (by assumption) ?_
   rotate_left 1
   ·(intro w' hSw; go_simp; try with_reducible rfl)
   try simp only [Act.put,List.setIfInBounds_toArray,List.set_cons_zero,List.set_cons_succ]
   clear hHeld
   refine wpAnyH_ready (rs := [17]) (by decide +kernel) (by simp) ?_
   refine AllReadyH.cons rfl (fun K hK => ?_) AllReadyH.nil
   rw [if_pos (by kernel_rfl)]
   refine wp_store_row (o := ⟨none,.store _ (.tmp 9) _,_,_,_,_⟩) 43 _ _ rfl (w1.heap.size) PR rfl rfl 43 PZ (show (wB2).heap[w1.heap.size]? = _ from HQB2.out) SZ.out SE.out SO.out ?_
   refine hK.out _ _ (HSV.out _ (ybelow_row HBB2.out HGQB1.out PR)) (fun hHeld => ?_)
   clear hK K
   simp only [Act.put]
   refine wpAnyH_take (i := 18) (oi := ⟨some 10,_,_,_,_,_⟩) (v := ?_) rfl (by kernel_rfl) (by decide +kernel) (by decide +kernel) (fun _ _ _ h => h) (Or.inl ⟨by rfl, ?_⟩) (by assumption) ?_
   rotate_left 1
   ·(intro w' hSw; go_simp; try with_reducible rfl)
   try simp only [Act.put,List.setIfInBounds_toArray,List.set_cons_zero,List.set_cons_succ]
   clear hHeld
   refine wpAnyH_done (by decide +kernel) ?_ _
   refine NoPanic.normal ?_
   go_wp2_with fail
   go_meet
   exact ⟨cB2,w1.heap.size,rfl,rfl,rfl,⟨ybelow_row HBB2.out HGQB1.out PR,(setRow_other _ _ _ _ HNEB2.out).trans HCB2.out,by rw [HPR.out]; exact setRow_heap _ _ _ _ _ _ HQB2.out,HNEB2.out,HGCB2.out,HGQB1.out⟩⟩
 case rest =>
  obtain ⟨c,q,rfl,rfl,rfl,hsd⟩ := hcut
  obtain ⟨w2,hwc⟩ : ∃ z : World,z = wc := ⟨_,rfl⟩
  subst hwc
  have HSD := hid hsd
  clear hsd HSV HSC
  have HB2 := hid (HB1.out.trans (HSD.out.bel.mono HB1.out.size))
  have HP2 := hid (HPL.out w2 HB2.out)
  have HD2 := hid (HPD.out w2 HB2.out)
  have hdev := HP2.out.dev
  have HQ2 := hid ((HSD.out.bel.block _ (lt_of_block HQ0.out)).trans HQ0.out)
  have HLT := hid (Nat.lt_of_lt_of_le (lt_of_block HQ0.out) HSD.out.qg)
  have HLD := hid (fun g hg => HPD.out w (Below.refl _ _) |>.lt g hg)
  cases hg : (goP lim dn).2 with
  | true =>
    have HW := hid (pwrite_down D gl bm n a vw V ws lim dn (some ⟨c,0,none⟩) 512 w2 HD2.out HAN.out hg)
    have HG := hid hg
    clear hg
    go_wp2_with fail
    refine HW.out.mono ?_
    rintro e w3 ⟨rfl,hd3,ho3⟩
    have HQ3 := hid ((ho3.rest _ (show w.heap.size ≠ D from fun e => by have := HLD.out D (by simp [pfp]); omega)).trans HQ2.out)
    have HD3 := hid hd3
    have HT3 := hid ((Touch.of_below (l := pfp D gl bm vw) HB2.out).trans (touch_only ho3 (by simp [pfp])))
    clear hd3 ho3 HW HPD HPL
    go_wp2_with (first
     | (with_reducible refine wpList_build_run (o := ⟨some 40,_,_,_,_,_⟩) rfl 43 _ rfl #[] (by simp [Act.eval]) (.agg PZ) (HBN.out _) ?_)
     | (with_reducible refine wpList_store_row (o := ⟨none,.store _ (.tmp 6) _,_,_,_,_⟩) rfl 43 _ _ rfl w.heap.size PZ rfl rfl 43 PZ HQ3.out SZ0.out rfl SO0.out ?_))
    refine bodyPost_ret (v := .tuple #[.agg PZ,.int .i64 7]) (results_cell_two Tryz.results80 _ _ w.heap.size 43 PZ (0,0) _ rfl (setRow_heap _ w.heap.size _ PZ _ _ HQ3.out) Tryz.underlying43 rfl SZ0.out _ rfl) rfl ?_
    have hrow : Below w.heap.size w3 (w3.setRow w.heap.size PZ) := ybelow_row (Below.refl _ _) (Nat.le_refl _) _
    refine .inl ⟨HG.out,by rw [HPZ.out], ?_, ?_⟩
    ·exact HD3.out.touch (setRow_touch w3 w.heap.size PZ) (fun g hg e => by simp only [List.mem_singleton] at e; have := HLD.out g hg; omega)
    ·exact HT3.out.trans_new hrow
  | false =>
    obtain ⟨hdn,hlim⟩ := goP_not hg
    subst hdn
    have HW := hid (pwrite_ok D gl bm n a c 512 vw V S ws lim w2 HD2.out HAN.out HSD.out.cy HSL.out hlim HWS.out)
    have HG := hid hg
    clear hg hlim
    go_wp2_with fail
    refine HW.out.mono ?_
    rintro e w3 ⟨rfl,vw',hd3,ht3,hn3⟩
    have hpf : ∀ g,w.heap.size ≤ g → g ∉ pfp D gl bm vw := fun g h e => by have := HLD.out g e; omega
    have HQ3 := hid ((ht3.block _ (lt_of_block HQ2.out) (hpf _ (Nat.le_refl _))).trans HQ2.out)
    have HR3 := hid (show w3.heap[q]? = some (.cells PR 43 (0,0)) from (ht3.block _ (lt_of_block HSD.out.qy) (hpf _ (Nat.le_of_lt HLT.out))).trans (by rw [← HPR.out]; exact HSD.out.qy))
    have HD3 := hid hd3
    have HT3 := hid ((Touch.of_below (l := pfp D gl bm vw) HB2.out).trans ht3)
    have HN3 := hid hn3
    clear hd3 ht3 hn3 hpf HW HPD HPL
    go_wp2_with (first
     | (with_reducible refine wpList_load_row (o := ⟨some 42,_,_,_,_,_⟩) rfl 43 _ rfl q rfl 43 PR (0,0) _ HR3.out Tryz.underlying43 rfl SZ.out ?_)
     | (with_reducible refine wpList_store_row (o := ⟨none,.store _ (.tmp 6) _,_,_,_,_⟩) rfl 43 _ _ rfl w.heap.size PR rfl rfl 43 PZ HQ3.out SZ.out SE.out SO.out ?_))
    refine bodyPost_ret (v := .tuple #[.agg PR,.int .i64 0]) (results_cell_two Tryz.results80 _ _ w.heap.size 43 PR (0,0) _ rfl (setRow_heap _ w.heap.size _ PR _ _ HQ3.out) Tryz.underlying43 rfl SZ.out _ rfl) rfl ?_
    have hrow : Below w.heap.size w3 (w3.setRow w.heap.size PR) := ybelow_row (Below.refl _ _) (Nat.le_refl _) _
    have h2 : w.heap.size < w2.heap.size := lt_of_block HQ2.out
    have hown : ∀ g,vw'.ownBlock = some g → vw.ownBlock = some g ∨ w2.heap.size ≤ g := HN3.out
    refine .inr ⟨HG.out,by rw [HPR.out],vw', ?_,HT3.out.trans_new hrow,fun g hg => (hown g hg).imp id (fun h => by omega)⟩
    refine HD3.out.touch (setRow_touch w3 w.heap.size PR) (fun g hg e => ?_)
    simp only [List.mem_singleton] at e
    subst e
    simp only [pfp,List.mem_cons,Option.mem_toList] at hg
    have hl := fun g hg => HLD.out g hg
    simp only [pfp,List.mem_cons,Option.mem_toList] at hl
    rcases hg with h | h | h | h
    ·have := hl w.heap.size (.inl h); omega
    ·have := hl w.heap.size (.inr (.inl h)); omega
    ·have := hl w.heap.size (.inr (.inr (.inl h))); omega
    ·rcases hown _ h with h | h
     ·have := hl w.heap.size (.inr (.inr (.inr h))); omega
     ·omega
end Go.Proofs.YtgckapolpifbkaaGreatDoor
