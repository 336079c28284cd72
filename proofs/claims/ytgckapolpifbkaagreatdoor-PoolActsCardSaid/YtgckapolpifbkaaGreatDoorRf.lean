import Derived.Test.YtgckapolpifbkaaGreatDoorNo0
import Derived.Test.YtgckapolpifbkaaGreatDoorPt1
import Derived.Test.YtgckapolpifbkaaGreatDoorNg
namespace Go.Proofs.YtgckapolpifbkaaGreatDoor
open Lib (hid)
set_option maxRecDepth 4000
set_option linter.unusedVariables false
open Go.ChangeShapes Go.WideShapes Go.ChangeAt Go.RowKit
def prevK (l : List ByteArray) (i : Nat) : ByteArray := if i = 0 then ⟨#[]⟩ else l.getD (i - 1) ⟨#[]⟩
theorem lo_empty {a s : ByteArray} (h : s.size < 1) : lo a s = false := by
 have : s = ⟨#[]⟩ := ByteArray.ext (Array.eq_empty_of_size_eq_zero (show s.data.size = 0 from by have : s.data.size = s.size := rfl; omega))
 subst this
 rw [lo_lt,decide_eq_false_iff_not]
 simp [Lib.toList_data,List.not_lt_nil]
theorem lo_zero {s : ByteArray} (h : 1 ≤ s.size) : lo ⟨#[]⟩ s = true := by
 rcases lo_tri ⟨#[]⟩ s with e | e | e
 ·exact e
 ·rw [← e] at h; exact absurd h (by decide)
 ·rw [lo_empty (by decide)] at e; cases e
theorem rises_drop (l : List ByteArray) (i : Nat) (x : ByteArray) (h : l[i]? = some x) : risesFrom (prevK l i) (l.drop i) = (lo (prevK l i) x && decide (x.size ≤ 32) && risesFrom (prevK l (i + 1)) (l.drop (i + 1))) := by
 obtain ⟨hi,rfl⟩ := List.getElem?_eq_some_iff.1 h
 rw [List.drop_eq_getElem_cons hi]
 show (_ && _ && risesFrom l[i] _) = _
 have : prevK l (i + 1) = l[i] := by unfold prevK; rw [if_neg (by omega),Nat.add_sub_cancel,List.getD,h]; rfl
 rw [this]
theorem all_drop {α : Type} (f : α → Bool) (l : List α) (i : Nat) (x : α) (h : l[i]? = some x) : (l.drop i).all f = (f x && (l.drop (i + 1)).all f) := by
 obtain ⟨hi,rfl⟩ := List.getElem?_eq_some_iff.1 h
 rw [List.drop_eq_getElem_cons hi]
 rfl
set_option maxRecDepth 100000 in
set_option maxHeartbeats 3200000 in
theorem rform_true (k v p : Value) (l m : List ByteArray) (q : List PtrV) (w : World) (h : NR w k v p ⟨true,l,m,q⟩) (hn : NB ⟨true,l,m,q⟩) :
 Calls Tryz.prog 97 #[.agg #[.bool true,k,v,p]] w fun e w' => e = .returned (.bool (formB ⟨true,l,m,q⟩)) ∧ Below w.heap.size w w' := by
 have hb1 := (Below.refl w.heap.size w).alloc (Nat.le_refl _) (.cells #[.bool true,k,v,p] 38)
 have hA1 := heap_alloc_new w (.cells #[.bool true,k,v,p] 38)
 have hs1 : w.heap.size < (w.alloc (.cells #[.bool true,k,v,p] 38)).heap.size := by simp
 generalize hw1 : w.alloc (.cells #[.bool true,k,v,p] 38) = w1 at *
 obtain ⟨ak,ck,hke,_,hk⟩ := (h.below hb1).ks
 obtain ⟨av,cv,hve,_,hv⟩ := (h.below hb1).vs
 obtain ⟨ap,cp,hpe,hp⟩ := (h.below hb1).ps
 dsimp only at hke hve hpe hk hv hp
 subst hke hve hpe
 have HK := hid hk
 have HV := hid hv
 have HP := hid hp
 have HF := hid (show formB ⟨true,l,m,q⟩ = (countsB ⟨true,l,m,q⟩ && risesFrom ⟨#[]⟩ l && m.all valOk && q.all kidOk) from rfl)
 have HC := hid (show countsB ⟨true,l,m,q⟩ = (decide (m.length = l.length) && decide (q.length = 0)) from rfl)
 obtain ⟨fb,hfb⟩ : ∃ fb,formB ⟨true,l,m,q⟩ = fb := ⟨_,rfl⟩
 rw [hfb] at HF ⊢
 have hnk : l.length ≤ 140737488351232 := hn.kl
 have hnv : m.length ≤ 140737488351232 := hn.vl
 have hnp : q.length ≤ 140737488351232 := hn.pl
 have HKZ := hid (show ∀ s ∈ l,s.size ≤ 140737488351232 from hn.kz)
 have HVZ := hid (show ∀ s ∈ m,s.size ≤ 140737488351232 from hn.vz)
 obtain ⟨N,hN⟩ : ∃ N,l.length = N := ⟨_,rfl⟩
 obtain ⟨M,hM⟩ : ∃ M,m.length = M := ⟨_,rfl⟩
 obtain ⟨Q,hQ⟩ : ∃ Q,q.length = Q := ⟨_,rfl⟩
 have HN := hid hN
 have HM := hid hM
 have HQ := hid hQ
 rw [hN] at hw1 hA1 hnk
 rw [hM] at hw1 hA1 hnv
 rw [hQ] at hw1 hA1 hnp
 rw [hN,hM,hQ]
 have NI : (N : Int) ≤ 140737488351232 := by omega
 have MI : (M : Int) ≤ 140737488351232 := by omega
 have QI : (Q : Int) ≤ 140737488351232 := by omega
 have N0 : (0 : Int) ≤ (N : Int) := by omega
 have M0 : (0 : Int) ≤ (M : Int) := by omega
 have Q0 : (0 : Int) ≤ (Q : Int) := by omega
 have HBW := hid (show ∀ W,Below w1.heap.size w1 W → Below w.heap.size w W from fun W b => hb1.trans (b.mono hb1.size))
 have HA := hid (fun W (b : Below w1.heap.size w1 W) => (b.block w.heap.size hs1).trans hA1)
 obtain ⟨c0,c1,c2,c3⟩ := node_at hA1
 clear h hn hk hv hp hfb hN hM hQ hnk hnv hnp hA1 hb1 hs1
 go_enter Tryz.func97,Tryz.ntmps97
 go_upto_region 1 with fail
 try rw [hw1]
 clear hw1
 go_wp2_with fail
 go_loopw [3,4,12] (fun _ _ v12 wr => ∃ i : Nat,i ≤ N ∧ v12 = .int .i64 (i : Int) ∧ risesFrom ⟨#[]⟩ l = risesFrom (prevK l i) (l.drop i) ∧ wr = w1) (fun _ _ v _ => N - (intOf v).toNat)
 case atStart => exact ⟨0,by omega,rfl,rfl,rfl⟩
 case round =>
  obtain ⟨i,hi,rfl,hR,hwr⟩ := hrel
  have hwr' := hwr.symm
  subst hwr'
  clear hwr
  by_cases hlt : i < N
  ·obtain ⟨x,hx⟩ : ∃ x,l[i]? = some x := ⟨_,List.getElem?_eq_getElem (by have := HN.out; omega)⟩
   obtain ⟨b1,o1,rfl,g1⟩ := HK.out i x hx
   have hix := index_sl b1 o1 N ck i hlt
   rw [rises_drop l i x hx] at hR
   have hxz := HKZ.out x (List.mem_of_getElem? hx)
   have xI : (x.size : Int) ≤ 140737488351232 := by omega
   have x0 : (0 : Int) ≤ (x.size : Int) := by omega
   have HLT := hid hlt
   have iI : (i : Int) < (N : Int) := by omega
   have i0 : (0 : Int) ≤ (i : Int) := by omega
   by_cases hz1 : x.size < 1
   ·have HE := hid (show fb = false by rw [HF.out,hR,lo_empty hz1]; simp)
    have d1 : decide (x.size < 1) = true := by rw [decide_eq_true_iff]; exact hz1
    have d1' : decide ((x.size : Int) < 1) = true := by rw [decide_eq_true_iff]; omega
    clear hi hlt hx hR hz1 hxz
    go_wp2_with fail
    go_ret
    exact ⟨by rw [HE.out]; rfl,HBW.out _ (Below.refl _ _)⟩
   ·have d1 : decide (x.size < 1) = false := by rw [decide_eq_false_iff_not]; exact hz1
    have d1' : decide ((x.size : Int) < 1) = false := by rw [decide_eq_false_iff_not]; omega
    by_cases hz2 : 32 < x.size
    ·have d2 : decide ((32 : Int) < (x.size : Int)) = true := by rw [decide_eq_true_iff]; omega
     have HE := hid (show fb = false by rw [HF.out,hR,show decide (x.size ≤ 32) = false by rw [decide_eq_false_iff_not]; omega]; simp)
     clear hi hlt hx hR hz1 hz2 hxz
     go_wp2_with fail
     go_ret
     exact ⟨by rw [HE.out]; rfl,HBW.out _ (Below.refl _ _)⟩
    ·have d2 : decide ((32 : Int) < (x.size : Int)) = false := by rw [decide_eq_false_iff_not]; omega
     rw [show decide (x.size ≤ 32) = true by rw [decide_eq_true_iff]; omega,Bool.and_true] at hR
     by_cases hz : i = 0
     ·have hzb : decide (0 < i) = false := by rw [hz]; rfl
      have HNX := hid (show risesFrom ⟨#[]⟩ l = risesFrom (prevK l (i + 1)) (l.drop (i + 1)) from by
       rw [hR,show prevK l i = ⟨#[]⟩ by unfold prevK; rw [if_pos hz],lo_zero (by omega),Bool.true_and])
      clear hi hlt hx hR hz hz1 hz2 hxz
      go_wp2_with fail
      go_roundw
      case rel => exact ⟨i + 1,by have := HLT.out; omega,by go_num,HNX.out,by trivial⟩
      case measure => simp [intOf]; have := HLT.out; omega
     ·have hzb : decide (0 < i) = true := by rw [decide_eq_true_iff]; omega
      obtain ⟨j,hj⟩ : ∃ j : Nat,(i : Int) - 1 = (j : Int) := ⟨i - 1,by omega⟩
      have hji : j < N := by omega
      obtain ⟨y,hy⟩ : ∃ y,l[j]? = some y := ⟨_,List.getElem?_eq_getElem (by have := HN.out; omega)⟩
      obtain ⟨b2,o2,hbo,g2⟩ := HK.out j y hy
      simp only [Option.some.injEq,Addr.mk.injEq,and_true] at hbo
      obtain ⟨rfl,rfl⟩ := hbo
      have hix2 := index_sl b1 o1 N ck j hji
      have jI : (j : Int) < (N : Int) := by omega
      have j0 : (0 : Int) ≤ (j : Int) := by omega
      rw [show prevK l i = y by unfold prevK; rw [if_neg hz,show i - 1 = j by omega,List.getD,hy]; rfl] at hR
      cases hlo : lo y x with
      | true =>
        have hlo' : Op.bytesLess y.toList x.toList = true := hlo
        rw [hlo,Bool.true_and] at hR
        have HNX := hid hR
        clear hi hlt hx hR hz hz1 hz2 hxz hlo hji hy
        go_wp2_with fail
        go_roundw
        case rel => exact ⟨i + 1,by have := HLT.out; omega,by go_num,HNX.out,by trivial⟩
        case measure => simp [intOf]; have := HLT.out; omega
      | false =>
        have hlo' : Op.bytesLess y.toList x.toList = false := hlo
        have HE := hid (show fb = false by rw [HF.out,hR,hlo]; simp)
        clear hi hlt hx hR hz hz1 hz2 hxz hlo hji hy
        go_wp2_with fail
        go_ret
        exact ⟨by rw [HE.out]; rfl,HBW.out _ (Below.refl _ _)⟩
  ·obtain rfl : i = N := by omega
   rw [show risesFrom (prevK l i) (l.drop i) = true by rw [List.drop_eq_nil_of_le (by have := HN.out; omega)]; rfl] at hR
   rw [hR] at HF
   clear hi hlt hR HK
   go_wp2_with fail
   go_loopw [6,45] (fun _ v45 wr => ∃ j : Nat,j ≤ M ∧ v45 = .int .i64 (j : Int) ∧ m.all valOk = (m.drop j).all valOk ∧ wr = w1) (fun _ v _ => M - (intOf v).toNat)
   case atStart => exact ⟨0,by omega,rfl,rfl,rfl⟩
   case round =>
    obtain ⟨j,hj,rfl,hR,hwr⟩ := hrel
    have hwr' := hwr.symm
    subst hwr'
    clear hwr
    by_cases hlt : j < M
    ·obtain ⟨x,hx⟩ : ∃ x,m[j]? = some x := ⟨_,List.getElem?_eq_getElem (by have := HM.out; omega)⟩
     obtain ⟨b1,o1,rfl,g1⟩ := HV.out j x hx
     have hix := index_sl b1 o1 M cv j hlt
     rw [all_drop valOk m j x hx] at hR
     have hxz := HVZ.out x (List.mem_of_getElem? hx)
     have xI : (x.size : Int) ≤ 140737488351232 := by omega
     have x0 : (0 : Int) ≤ (x.size : Int) := by omega
     have HLT := hid hlt
     have jI : (j : Int) < (M : Int) := by omega
     have j0 : (0 : Int) ≤ (j : Int) := by omega
     by_cases hz2 : 96 < x.size
     ·have d2 : decide ((96 : Int) < (x.size : Int)) = true := by rw [decide_eq_true_iff]; omega
      have HE := hid (show fb = false by rw [HF.out,hR,show valOk x = false by unfold valOk; rw [decide_eq_false_iff_not]; omega]; simp)
      clear hj hlt hx hR hz2 hxz
      go_wp2_with fail
      go_ret
      exact ⟨by rw [HE.out]; rfl,HBW.out _ (Below.refl _ _)⟩
     ·have d2 : decide ((96 : Int) < (x.size : Int)) = false := by rw [decide_eq_false_iff_not]; omega
      rw [show valOk x = true by unfold valOk; rw [decide_eq_true_iff]; omega,Bool.true_and] at hR
      have HNX := hid hR
      clear hj hlt hx hR hz2 hxz
      go_wp2_with fail
      go_roundw
      case rel => exact ⟨j + 1,by have := HLT.out; omega,by go_num,HNX.out,by trivial⟩
      case measure => simp [intOf]; have := HLT.out; omega
    ·obtain rfl : j = M := by omega
     rw [show (m.drop j).all valOk = true by rw [List.drop_eq_nil_of_le (by have := HM.out; omega)]; rfl] at hR
     rw [hR,HC.out,HM.out,HN.out,HQ.out] at HF
     have HKO := hid (show Q = 0 → q.all kidOk = true from fun e => by rw [show q = [] from List.eq_nil_of_length_eq_zero (by rw [HQ.out,e])]; rfl)
     have e1 : ((j : Int) == (i : Int)) = decide (j = i) := cast_beq j i
     have e2 : ((Q : Int) == 0) = decide (Q = 0) := cast_beq Q 0
     clear hj hlt hR HV HC HM HN HQ
     by_cases ha : j = i
     ·rw [decide_eq_true ha] at e1
      have hfb1 := HF.out
      rw [decide_eq_true ha] at hfb1
      by_cases hb : Q = 0
      ·rw [decide_eq_true hb] at e2
       have HE := hid (show fb = true by rw [hfb1,HKO.out hb,decide_eq_true hb]; rfl)
       clear ha hb hfb1
       go_wp2_with fail
       go_ret
       exact ⟨by rw [HE.out]; rfl,HBW.out _ (Below.refl _ _)⟩
      ·rw [decide_eq_false hb] at e2
       have HE := hid (show fb = false by rw [hfb1,decide_eq_false hb]; simp)
       clear ha hb hfb1
       go_wp2_with fail
       go_ret
       exact ⟨by rw [HE.out]; rfl,HBW.out _ (Below.refl _ _)⟩
     ·rw [decide_eq_false ha] at e1
      have HE := hid (show fb = false by rw [HF.out,decide_eq_false ha]; simp)
      clear ha
      go_wp2_with fail
      go_ret
      exact ⟨by rw [HE.out]; rfl,HBW.out _ (Below.refl _ _)⟩
set_option maxRecDepth 100000 in
set_option maxHeartbeats 3200000 in
theorem rform_false (k v p : Value) (l m : List ByteArray) (q : List PtrV) (w : World) (h : NR w k v p ⟨false,l,m,q⟩) (hn : NB ⟨false,l,m,q⟩) :
 Calls Tryz.prog 97 #[.agg #[.bool false,k,v,p]] w fun e w' => e = .returned (.bool (formB ⟨false,l,m,q⟩)) ∧ Below w.heap.size w w' := by
 have hb1 := (Below.refl w.heap.size w).alloc (Nat.le_refl _) (.cells #[.bool false,k,v,p] 38)
 have hA1 := heap_alloc_new w (.cells #[.bool false,k,v,p] 38)
 have hs1 : w.heap.size < (w.alloc (.cells #[.bool false,k,v,p] 38)).heap.size := by simp
 generalize hw1 : w.alloc (.cells #[.bool false,k,v,p] 38) = w1 at *
 obtain ⟨ak,ck,hke,_,hk⟩ := (h.below hb1).ks
 obtain ⟨av,cv,hve,_,hv⟩ := (h.below hb1).vs
 obtain ⟨ap,cp,hpe,hp⟩ := (h.below hb1).ps
 dsimp only at hke hve hpe hk hv hp
 subst hke hve hpe
 have HK := hid hk
 have HV := hid hv
 have HP := hid hp
 have HF := hid (show formB ⟨false,l,m,q⟩ = (countsB ⟨false,l,m,q⟩ && risesFrom ⟨#[]⟩ l && m.all valOk && q.all kidOk) from rfl)
 have HC := hid (show countsB ⟨false,l,m,q⟩ = (decide (0 < l.length) && decide (m.length = 0) && decide (q.length = l.length + 1)) from rfl)
 obtain ⟨fb,hfb⟩ : ∃ fb,formB ⟨false,l,m,q⟩ = fb := ⟨_,rfl⟩
 rw [hfb] at HF ⊢
 have hnk : l.length ≤ 140737488351232 := hn.kl
 have hnv : m.length ≤ 140737488351232 := hn.vl
 have hnp : q.length ≤ 140737488351232 := hn.pl
 have HKZ := hid (show ∀ s ∈ l,s.size ≤ 140737488351232 from hn.kz)
 have HVZ := hid (show ∀ s ∈ m,s.size ≤ 140737488351232 from hn.vz)
 obtain ⟨N,hN⟩ : ∃ N,l.length = N := ⟨_,rfl⟩
 obtain ⟨M,hM⟩ : ∃ M,m.length = M := ⟨_,rfl⟩
 obtain ⟨Q,hQ⟩ : ∃ Q,q.length = Q := ⟨_,rfl⟩
 have HN := hid hN
 have HM := hid hM
 have HQ := hid hQ
 rw [hN] at hw1 hA1 hnk
 rw [hM] at hw1 hA1 hnv
 rw [hQ] at hw1 hA1 hnp
 rw [hN,hM,hQ]
 have NI : (N : Int) ≤ 140737488351232 := by omega
 have MI : (M : Int) ≤ 140737488351232 := by omega
 have QI : (Q : Int) ≤ 140737488351232 := by omega
 have N0 : (0 : Int) ≤ (N : Int) := by omega
 have M0 : (0 : Int) ≤ (M : Int) := by omega
 have Q0 : (0 : Int) ≤ (Q : Int) := by omega
 have HBW := hid (show ∀ W,Below w1.heap.size w1 W → Below w.heap.size w W from fun W b => hb1.trans (b.mono hb1.size))
 have HA := hid (fun W (b : Below w1.heap.size w1 W) => (b.block w.heap.size hs1).trans hA1)
 obtain ⟨c0,c1,c2,c3⟩ := node_at hA1
 clear h hn hk hv hp hfb hN hM hQ hnk hnv hnp hA1 hb1 hs1
 go_enter Tryz.func97,Tryz.ntmps97
 go_upto_region 1 with fail
 try rw [hw1]
 clear hw1
 go_wp2_with fail
 go_loopw [3,4,12] (fun _ _ v12 wr => ∃ i : Nat,i ≤ N ∧ v12 = .int .i64 (i : Int) ∧ risesFrom ⟨#[]⟩ l = risesFrom (prevK l i) (l.drop i) ∧ wr = w1) (fun _ _ v _ => N - (intOf v).toNat)
 case atStart => exact ⟨0,by omega,rfl,rfl,rfl⟩
 case round =>
  obtain ⟨i,hi,rfl,hR,hwr⟩ := hrel
  have hwr' := hwr.symm
  subst hwr'
  clear hwr
  by_cases hlt : i < N
  ·obtain ⟨x,hx⟩ : ∃ x,l[i]? = some x := ⟨_,List.getElem?_eq_getElem (by have := HN.out; omega)⟩
   obtain ⟨b1,o1,rfl,g1⟩ := HK.out i x hx
   have hix := index_sl b1 o1 N ck i hlt
   rw [rises_drop l i x hx] at hR
   have hxz := HKZ.out x (List.mem_of_getElem? hx)
   have xI : (x.size : Int) ≤ 140737488351232 := by omega
   have x0 : (0 : Int) ≤ (x.size : Int) := by omega
   have HLT := hid hlt
   have iI : (i : Int) < (N : Int) := by omega
   have i0 : (0 : Int) ≤ (i : Int) := by omega
   by_cases hz1 : x.size < 1
   ·have HE := hid (show fb = false by rw [HF.out,hR,lo_empty hz1]; simp)
    have d1 : decide (x.size < 1) = true := by rw [decide_eq_true_iff]; exact hz1
    have d1' : decide ((x.size : Int) < 1) = true := by rw [decide_eq_true_iff]; omega
    clear hi hlt hx hR hz1 hxz
    go_wp2_with fail
    go_ret
    exact ⟨by rw [HE.out]; rfl,HBW.out _ (Below.refl _ _)⟩
   ·have d1 : decide (x.size < 1) = false := by rw [decide_eq_false_iff_not]; exact hz1
    have d1' : decide ((x.size : Int) < 1) = false := by rw [decide_eq_false_iff_not]; omega
    by_cases hz2 : 32 < x.size
    ·have d2 : decide ((32 : Int) < (x.size : Int)) = true := by rw [decide_eq_true_iff]; omega
     have HE := hid (show fb = false by rw [HF.out,hR,show decide (x.size ≤ 32) = false by rw [decide_eq_false_iff_not]; omega]; simp)
     clear hi hlt hx hR hz1 hz2 hxz
     go_wp2_with fail
     go_ret
     exact ⟨by rw [HE.out]; rfl,HBW.out _ (Below.refl _ _)⟩
    ·have d2 : decide ((32 : Int) < (x.size : Int)) = false := by rw [decide_eq_false_iff_not]; omega
     rw [show decide (x.size ≤ 32) = true by rw [decide_eq_true_iff]; omega,Bool.and_true] at hR
     by_cases hz : i = 0
     ·have hzb : decide (0 < i) = false := by rw [hz]; rfl
      have HNX := hid (show risesFrom ⟨#[]⟩ l = risesFrom (prevK l (i + 1)) (l.drop (i + 1)) from by
       rw [hR,show prevK l i = ⟨#[]⟩ by unfold prevK; rw [if_pos hz],lo_zero (by omega),Bool.true_and])
      clear hi hlt hx hR hz hz1 hz2 hxz
      go_wp2_with fail
      go_roundw
      case rel => exact ⟨i + 1,by have := HLT.out; omega,by go_num,HNX.out,by trivial⟩
      case measure => simp [intOf]; have := HLT.out; omega
     ·have hzb : decide (0 < i) = true := by rw [decide_eq_true_iff]; omega
      obtain ⟨j,hj⟩ : ∃ j : Nat,(i : Int) - 1 = (j : Int) := ⟨i - 1,by omega⟩
      have hji : j < N := by omega
      obtain ⟨y,hy⟩ : ∃ y,l[j]? = some y := ⟨_,List.getElem?_eq_getElem (by have := HN.out; omega)⟩
      obtain ⟨b2,o2,hbo,g2⟩ := HK.out j y hy
      simp only [Option.some.injEq,Addr.mk.injEq,and_true] at hbo
      obtain ⟨rfl,rfl⟩ := hbo
      have hix2 := index_sl b1 o1 N ck j hji
      have jI : (j : Int) < (N : Int) := by omega
      have j0 : (0 : Int) ≤ (j : Int) := by omega
      rw [show prevK l i = y by unfold prevK; rw [if_neg hz,show i - 1 = j by omega,List.getD,hy]; rfl] at hR
      cases hlo : lo y x with
      | true =>
        have hlo' : Op.bytesLess y.toList x.toList = true := hlo
        rw [hlo,Bool.true_and] at hR
        have HNX := hid hR
        clear hi hlt hx hR hz hz1 hz2 hxz hlo hji hy
        go_wp2_with fail
        go_roundw
        case rel => exact ⟨i + 1,by have := HLT.out; omega,by go_num,HNX.out,by trivial⟩
        case measure => simp [intOf]; have := HLT.out; omega
      | false =>
        have hlo' : Op.bytesLess y.toList x.toList = false := hlo
        have HE := hid (show fb = false by rw [HF.out,hR,hlo]; simp)
        clear hi hlt hx hR hz hz1 hz2 hxz hlo hji hy
        go_wp2_with fail
        go_ret
        exact ⟨by rw [HE.out]; rfl,HBW.out _ (Below.refl _ _)⟩
  ·obtain rfl : i = N := by omega
   rw [show risesFrom (prevK l i) (l.drop i) = true by rw [List.drop_eq_nil_of_le (by have := HN.out; omega)]; rfl] at hR
   rw [hR] at HF
   clear hi hlt hR HK
   go_wp2_with fail
   clear c0 c1 c2 c3
   go_loopw [69] (fun v69 wr => ∃ j : Nat,j ≤ Q ∧ v69 = .int .i64 (j : Int) ∧ q.all kidOk = (q.drop j).all kidOk ∧ Below w1.heap.size w1 wr) (fun v _ => Q - (intOf v).toNat)
   case atStart => exact ⟨0,by omega,rfl,rfl,Below.refl _ _⟩
   case round =>
    obtain ⟨j,hj,rfl,hR,hB⟩ := hrel
    by_cases hlt : j < Q
    ·obtain ⟨x,hx⟩ : ∃ x,q[j]? = some x := ⟨_,List.getElem?_eq_getElem (by have := HQ.out; omega)⟩
     obtain ⟨b1,o1,rfl,g1⟩ := HP.out j x hx
     have hix := index_ptr b1 o1 Q cp j hlt
     have HRG := hid (range_below g1 hB)
     rw [all_drop kidOk q j x hx] at hR
     have HR := hid hR
     have HLT := hid hlt
     have jI : (j : Int) < (Q : Int) := by omega
     have j0 : (0 : Int) ≤ (j : Int) := by omega
     have SWC := hid (size_ptr x)
     have SWR := hid (size_ptrA x)
     have EW := hid (show (ptrRow zeroPtr).toArray.size = (ptrRow x).toArray.size by simp [ptrRow_length])
     have WO := hid (ptrRow_one x)
     have hzp := zero_ptr
     obtain ⟨ZA,hZA⟩ : ∃ ZA,(ptrRow zeroPtr).toArray = ZA := ⟨_,rfl⟩
     rw [hZA] at hzp EW
     have HB := hid hB
     clear hj hlt hx hR g1 hZA hB
     go_upto_region 18 with (first
      | (with_reducible refine wpList_load_mid (op := ⟨some 72,_,_,_,_,_⟩) rfl 43 _ rfl b1 (o1 + j * 34) rfl (ptrRow x) _ HRG.out Tryz.underlying43 rfl SWC.out ?_)
      | (with_reducible refine wpList_store_row (o := ⟨none,.store _ (.tmp 8) _,_,_,_,_⟩) rfl 43 _ _ rfl wr.heap.size (ptrRow x).toArray rfl rfl 43 ZA (heap_alloc_new wr _) SWR.out EW.out WO.out ?_))
     clear hix hzp
     obtain ⟨h7,hb7⟩ := new_row8 wr ZA (ptrRow x).toArray
     generalize World.setRow _ wr.heap.size _ = w7 at *
     have H7 := hid h7
     have HB7 := hid (HB.out.trans (hb7.mono HB.out.size))
     have g0 : w7.cell? ⟨wr.heap.size,0,none⟩ = some (.int .u32 x.ad) := (cell_of_row _ _ 0 _ _ _ h7).trans rfl
     have HCK := hid (rcheck_any x 4096 (by decide) w7)
     have HK0 := hid (show kidOk x = (!(x.ad == 0) && decide (checkE x 4096 = 0)) from rfl)
     have hce : checkE x 4096 = 0 ∨ checkE x 4096 = 4 := by unfold checkE; split <;> simp
     clear h7 hb7 HRG SWC EW WO HB
     generalize (ptrRow x).toArray = AR at *
     by_cases hz : x.ad = 0
     ·have d1 : (x.ad == 0) = true := by rw [hz]; rfl
      have HE := hid (show fb = false by rw [HF.out,HR.out,HK0.out,d1]; simp)
      clear hz hce
      go_wp2_with fail
      go_ret
      exact ⟨by rw [HE.out]; rfl,HBW.out _ HB7.out⟩
     ·have d1 : (x.ad == 0) = false := beq_eq_false_iff_ne.2 hz
      rw [d1,Bool.not_false,Bool.true_and] at HK0
      clear hz
      go_wp2_with (first
       | (with_reducible refine wpList_load_guarded (o := ⟨some 77,_,_,_,_,_⟩) (by kernel_rfl) 43 _ rfl wr.heap.size rfl 43 AR (0,0) _ H7.out Tryz.underlying43 rfl SWR.out ?_))
      refine HCK.out.mono ?_
      rintro e w8 ⟨rfl,hb8⟩
      have HB8 := hid (HB7.out.trans (hb8.mono HB7.out.size))
      clear hb8 HCK HB7 H7 g0
      generalize checkE x 4096 = ce at *
      rcases hce with rfl | rfl
      ·have HNX := hid (show q.all kidOk = (q.drop (j + 1)).all kidOk by rw [HR.out,HK0.out]; rfl)
       go_wp2_with fail
       go_roundw
       case rel => exact ⟨j + 1,by have := HLT.out; omega,by go_num,HNX.out,HB8.out⟩
       case measure => simp [intOf]; have := HLT.out; omega
      ·have HE := hid (show fb = false by rw [HF.out,HR.out,HK0.out]; simp)
       go_wp2_with fail
       go_ret
       exact ⟨by rw [HE.out]; rfl,HBW.out _ HB8.out⟩
    ·obtain rfl : j = Q := by omega
     rw [show (q.drop j).all kidOk = true by rw [List.drop_eq_nil_of_le (by have := HQ.out; omega)]; rfl] at hR
     rw [hR,HC.out,HM.out,HN.out,HQ.out] at HF
     have HVO := hid (show M = 0 → m.all valOk = true from fun e => by rw [show m = [] from List.eq_nil_of_length_eq_zero (by rw [HM.out,e])]; rfl)
     obtain ⟨c0,c1,c2,c3⟩ := node_at (HA.out wr hB)
     have HB := hid hB
     have e1 : ((M : Int) == 0) = decide (M = 0) := cast_beq M 0
     have e2 : decide (0 < (i : Int)) = decide (0 < i) := by simp
     have e3 : ((j : Int) == (i : Int) + 1) = decide (j = i + 1) := cast_beq j (i + 1)
     clear hj hlt hR HP HC HM HN HQ hB
     by_cases ha : M = 0
     ·rw [decide_eq_true ha] at e1
      have hfb1 := HF.out
      rw [decide_eq_true ha,HVO.out ha] at hfb1
      by_cases hb : 0 < i
      ·rw [decide_eq_true hb] at e2
       have e4 : decide (0 < i) = true := decide_eq_true hb
       by_cases hc : j = i + 1
       ·rw [decide_eq_true hc] at e3
        have HE := hid (show fb = true by rw [hfb1,decide_eq_true hb,decide_eq_true hc]; rfl)
        clear ha hb hc hfb1
        go_wp2_with fail
        go_ret
        exact ⟨by rw [HE.out]; rfl,HBW.out _ HB.out⟩
       ·rw [decide_eq_false hc] at e3
        have HE := hid (show fb = false by rw [hfb1,decide_eq_false hc]; simp)
        clear ha hb hc hfb1
        go_wp2_with fail
        go_ret
        exact ⟨by rw [HE.out]; rfl,HBW.out _ HB.out⟩
      ·rw [decide_eq_false hb] at e2
       have e4 : decide (0 < i) = false := decide_eq_false hb
       have HE := hid (show fb = false by rw [hfb1,decide_eq_false hb]; simp)
       clear ha hb hfb1
       go_wp2_with fail
       go_ret
       exact ⟨by rw [HE.out]; rfl,HBW.out _ HB.out⟩
     ·rw [decide_eq_false ha] at e1
      have HE := hid (show fb = false by rw [HF.out,decide_eq_false ha]; simp)
      clear ha
      go_wp2_with fail
      go_ret
      exact ⟨by rw [HE.out]; rfl,HBW.out _ HB.out⟩
theorem rform_any (k v p : Value) (n : NodeV) (w : World) (h : NR w k v p n) (hn : NB n) :
 Calls Tryz.prog 97 #[.agg #[.bool n.lf,k,v,p]] w fun e w' => e = .returned (.bool (formB n)) ∧ Below w.heap.size w w' := by
 obtain ⟨lf,l,m,q⟩ := n
 cases lf with
 | true => exact rform_true k v p l m q w h hn
 | false => exact rform_false k v p l m q w h hn
end Go.Proofs.YtgckapolpifbkaaGreatDoor
