import Derived.Test.YtgckapolpifbkaaGreatDoorRy
namespace Go.Proofs.YtgckapolpifbkaaGreatDoor
open Lib (hid)
set_option maxRecDepth 4000
set_option linter.unusedVariables false
open Go.ChangeShapes Go.WideShapes Go.ChangeAt Go.RowKit
set_option maxRecDepth 100000 in
set_option maxHeartbeats 3200000 in
theorem rsize9_any (k v p : Value) (n : NodeV) (w : World) (h : NR w k v p n) (hn : NB n) (hfew : Few9 n) :
 Calls Tryz.prog 70 #[.agg #[.bool n.lf,k,v,p]] w fun e w' => e = .returned (.tuple #[.int .i64 (sizeA n).1,.int .i64 (sizeA n).2]) ∧ Below w.heap.size w w' := by
 have hb1 := (Below.refl w.heap.size w).alloc (Nat.le_refl _) (.cells #[.bool n.lf,k,v,p] 38)
 have hA1 := heap_alloc_new w (.cells #[.bool n.lf,k,v,p] 38)
 have hs1 : w.heap.size < (w.alloc (.cells #[.bool n.lf,k,v,p] 38)).heap.size := by simp
 generalize hw1 : w.alloc (.cells #[.bool n.lf,k,v,p] 38) = w1 at *
 have HF := hid (rform_any k v p n w1 (h.below hb1) hn)
 have HY := hid (fun (hf : formB n = true) W (b : Below w1.heap.size w1 W) => rbytes_any9 k v p n W ((h.below hb1).below b) hf hfew)
 have HAT := hid (fun W (b : Below w1.heap.size w1 W) => (b.block w.heap.size hs1).trans hA1)
 have HA1 := hid hA1
 have HB1 := hid hb1
 have SE := hid (size_node n.lf k v p)
 have HSA := hid (show sizeA n = if formB n then (((sizeN n : Nat) : Int),0) else (0,4) from rfl)
 have HNL := hid (fun hf => nodeB_length (n := n) hf)
 have HMX := hid (fun hf => sizeN_max (n := n) hf hn)
 obtain ⟨sa,hsa⟩ : ∃ sa,sizeA n = sa := ⟨_,rfl⟩
 rw [hsa] at HSA ⊢
 obtain ⟨fb,hfb⟩ : ∃ fb,formB n = fb := ⟨_,rfl⟩
 rw [hfb] at HF HSA HY HNL HMX
 clear h hn hfew hb1 hA1 hs1 hsa hfb
 go_enter Tryz.func70,Tryz.ntmps70
 go_upto_region 1 with fail
 try rw [hw1]
 clear hw1
 go_wp2_with (first
  | (with_reducible refine wpList_load_row (o := ⟨some 4,_,_,_,_,_⟩) rfl 38 _ rfl w.heap.size rfl 38 _ (0,0) _ HA1.out Tryz.underlying38 rfl SE.out ?_))
 refine HF.out.mono ?_
 rintro e w2 ⟨rfl,hb2⟩
 have HA2 := hid (HAT.out w2 hb2)
 have HB2 := hid hb2
 clear hb2 HF HA1
 cases fb with
 | false =>
   have HE := hid (show sa = (0,4) from HSA.out)
   clear HSA
   go_wp2_with fail
   go_ret2
   exact ⟨by rw [HE.out]; rfl,HB1.out.trans (HB2.out.mono HB1.out.size)⟩
 | true =>
   have HE := hid (show sa = (((sizeN n : Nat) : Int),0) from HSA.out)
   have HY2 := hid (HY.out rfl w2 HB2.out)
   have HL := hid (HNL.out rfl)
   have HM := hid (HMX.out rfl)
   clear HSA HY HNL HMX
   go_wp2_with (first
    | (with_reducible refine wpList_load_row (o := ⟨some 7,_,_,_,_,_⟩) rfl 38 _ rfl w.heap.size rfl 38 _ (0,0) _ HA2.out Tryz.underlying38 rfl SE.out ?_))
   refine HY2.out.mono ?_
   rintro e w3 ⟨vb,rfl,hob⟩
   obtain ⟨ab,cb,rfl⟩ := own_shape8 hob.own
   rw [HL.out]
   have HB3 := hid (HB2.out.trans (hob.bel.mono HB2.out.size))
   obtain ⟨z,hz⟩ : ∃ z,sizeN n = z := ⟨_,rfl⟩
   rw [hz] at HE HM ⊢
   have zI : (z : Int) ≤ 36028797018963968 := HM.out
   have z0 : (0 : Int) ≤ (z : Int) := by omega
   clear hob HY2 HA2 hz HL HM
   go_wp2_with fail
   go_ret2
   exact ⟨by rw [HE.out]; rfl,HB1.out.trans (HB3.out.mono HB1.out.size)⟩
set_option maxRecDepth 100000 in
set_option maxHeartbeats 3200000 in
theorem rcheck9_any (k v p : Value) (n : NodeV) (w : World) (h : NR w k v p n) (hn : NB n) (hfew : Few9 n) :
 Calls Tryz.prog 47 #[.agg #[.bool n.lf,k,v,p]] w fun e w' => e = .returned (.int .i64 (checkN n)) ∧ Below w.heap.size w w' := by
 have hb1 := (Below.refl w.heap.size w).alloc (Nat.le_refl _) (.cells #[.bool n.lf,k,v,p] 38)
 have HA1 := hid (heap_alloc_new w (.cells #[.bool n.lf,k,v,p] 38))
 have HF := hid (rsize9_any k v p n _ (h.below hb1) hn hfew)
 have HB1 := hid hb1
 have SE := hid (size_node n.lf k v p)
 have HSA := hid (show sizeA n = if formB n then (((sizeN n : Nat) : Int),0) else (0,4) from rfl)
 have HCN := hid (show checkN n = if formB n then (if sizeN n ≤ 512 then 0 else 6) else 4 from rfl)
 have HMX := hid (fun hf => sizeN_max (n := n) hf hn)
 obtain ⟨ce,hce⟩ : ∃ ce,checkN n = ce := ⟨_,rfl⟩
 rw [hce] at HCN ⊢
 obtain ⟨fb,hfb⟩ : ∃ fb,formB n = fb := ⟨_,rfl⟩
 rw [hfb] at HSA HCN HMX
 clear h hn hfew hb1 hce hfb
 cases fb with
 | false =>
   rw [show sizeA n = (0,4) from HSA.out] at HF
   have HE := hid (show ce = 4 from HCN.out)
   clear HSA HCN HMX
   go_enter Tryz.func47,Tryz.ntmps47
   go_wp2_with (first
    | (with_reducible refine wpList_load_row (o := ⟨some 6,_,_,_,_,_⟩) rfl 38 _ rfl w.heap.size rfl 38 _ (0,0) _ HA1.out Tryz.underlying38 rfl SE.out ?_))
   refine HF.out.mono ?_
   rintro e w2 ⟨rfl,hb2⟩
   have HB2 := hid hb2
   clear hb2 HF HA1
   go_wp2_with fail
   go_ret
   exact ⟨by rw [HE.out]; rfl,HB1.out.trans (HB2.out.mono HB1.out.size)⟩
 | true =>
   rw [show sizeA n = (((sizeN n : Nat) : Int),0) from HSA.out] at HF
   have HE := hid (show ce = if sizeN n ≤ 512 then 0 else 6 from HCN.out)
   have HM := hid (HMX.out rfl)
   clear HSA HCN HMX
   obtain ⟨z,hz⟩ : ∃ z,sizeN n = z := ⟨_,rfl⟩
   rw [hz] at HF HM HE
   have zI : (z : Int) ≤ 36028797018963968 := HM.out
   have z0 : (0 : Int) ≤ (z : Int) := by omega
   clear hz HM
   by_cases hz5 : 512 < z
   ·have HE2 := hid (show ce = 6 by rw [HE.out,if_neg (by omega)])
    have d1 : decide ((512 : Int) < (z : Int)) = true := by rw [decide_eq_true_iff]; omega
    clear hz5 HE
    go_enter Tryz.func47,Tryz.ntmps47
    go_wp2_with (first
     | (with_reducible refine wpList_load_row (o := ⟨some 6,_,_,_,_,_⟩) rfl 38 _ rfl w.heap.size rfl 38 _ (0,0) _ HA1.out Tryz.underlying38 rfl SE.out ?_))
    refine HF.out.mono ?_
    rintro e w2 ⟨rfl,hb2⟩
    have HB2 := hid hb2
    clear hb2 HF HA1
    go_wp2_with fail
    go_ret
    exact ⟨by rw [HE2.out]; rfl,HB1.out.trans (HB2.out.mono HB1.out.size)⟩
   ·have HE2 := hid (show ce = 0 by rw [HE.out,if_pos (by omega)])
    have d1 : decide ((512 : Int) < (z : Int)) = false := by rw [decide_eq_false_iff_not]; omega
    clear hz5 HE
    go_enter Tryz.func47,Tryz.ntmps47
    go_wp2_with (first
     | (with_reducible refine wpList_load_row (o := ⟨some 6,_,_,_,_,_⟩) rfl 38 _ rfl w.heap.size rfl 38 _ (0,0) _ HA1.out Tryz.underlying38 rfl SE.out ?_))
    refine HF.out.mono ?_
    rintro e w2 ⟨rfl,hb2⟩
    have HB2 := hid hb2
    clear hb2 HF HA1
    go_wp2_with fail
    go_ret
    exact ⟨by rw [HE2.out]; rfl,HB1.out.trans (HB2.out.mono HB1.out.size)⟩
end Go.Proofs.YtgckapolpifbkaaGreatDoor
