import Derived.Test.YtgckapolpifbkaaGreatDoorWm
namespace Go.Proofs.YtgckapolpifbkaaGreatDoor
open Lib (hid)
set_option maxRecDepth 4000
set_option linter.unusedVariables false
open Go.ChangeShapes Go.WideShapes Go.ChangeAt Go.RowKit
theorem heavyF_any (k v p : Value) (nd : NodeV) (w : World) (hn : NR w k v p nd) (hnb : NB nd) :
 Calls Tryz.prog 13 #[.agg #[.bool nd.lf,k,v,p]] w fun e w' => ∃ h,e = .returned (.bool h) ∧ (h = false → nd.ks.length ≤ 200 ∧ nd.vs.length ≤ 200 ∧ nd.ps.length ≤ 68) ∧ Below w.heap.size w w' := by
 obtain ⟨ak,ck,rfl,_,hks⟩ := hn.ks
 obtain ⟨av,cv,rfl,_,hvs⟩ := hn.vs
 obtain ⟨ap,cp,rfl,_⟩ := hn.ps
 have hb1 := (Below.refl w.heap.size w).alloc (Nat.le_refl _) (.cells #[.bool nd.lf,.slice ak nd.ks.length ck,.slice av nd.vs.length cv,.slice ap nd.ps.length cp] 38)
 have hr1 := heap_alloc_new w (.cells #[.bool nd.lf,.slice ak nd.ks.length ck,.slice av nd.vs.length cv,.slice ap nd.ps.length cp] 38)
 have kI : (nd.ks.length : Int) ≤ 140737488351232 := by have := hnb.kl; omega
 have vI : (nd.vs.length : Int) ≤ 140737488351232 := by have := hnb.vl; omega
 have pI : (nd.ps.length : Int) ≤ 140737488351232 := by have := hnb.pl; omega
 obtain ⟨c0,c1,c2,c3⟩ := node_at hr1
 have HKZ := hid (fun (i : Nat) (s : ByteArray) (hs : nd.ks[i]? = some s) => hnb.kz s (List.mem_of_getElem? hs))
 have HVZ := hid (fun (i : Nat) (s : ByteArray) (hs : nd.vs[i]? = some s) => hnb.vz s (List.mem_of_getElem? hs))
 have HK := hid (fun (i : Nat) (s : ByteArray) (hs : nd.ks[i]? = some s) => show ∃ b off,ak = some ⟨b,off,none⟩ ∧ (w.alloc (.cells #[.bool nd.lf,.slice ak nd.ks.length ck,.slice av nd.vs.length cv,.slice ap nd.ps.length cp] 38)).cell? ⟨b,off + i,none⟩ = some (.string s) from by
  obtain ⟨b,off,h1,h2⟩ := hks i s hs
  exact ⟨b,off,h1,(hb1.cell (block_lt_of_cell h2)).trans h2⟩)
 have HV := hid (fun (i : Nat) (s : ByteArray) (hs : nd.vs[i]? = some s) => show ∃ b off,av = some ⟨b,off,none⟩ ∧ (w.alloc (.cells #[.bool nd.lf,.slice ak nd.ks.length ck,.slice av nd.vs.length cv,.slice ap nd.ps.length cp] 38)).cell? ⟨b,off + i,none⟩ = some (.string s) from by
  obtain ⟨b,off,h1,h2⟩ := hvs i s hs
  exact ⟨b,off,h1,(hb1.cell (block_lt_of_cell h2)).trans h2⟩)
 have HB1 := hid hb1
 generalize hnk : nd.ks.length = nk at *
 generalize hnv : nd.vs.length = nv at *
 generalize nd.ps.length = np at *
 have HNK := hid hnk
 have HNV := hid hnv
 generalize nd.lf = lf at *
 clear hks hvs hb1 hr1 hnk hnv hn hnb
 generalize hw1 : w.alloc (.cells #[.bool lf,.slice ak nk ck,.slice av nv cv,.slice ap np cp] 38) = w1 at *
 go_enter Tryz.func13,Tryz.ntmps13
 go_upto_region 1 with fail
 try rw [hw1]
 clear hw1
 go_wp2_with fail
 go_loopw [3,5,15] (fun v3 _ v15 wr => ∃ (i : Nat) (x : Int),i ≤ nk ∧ v15 = .int .i64 (i : Int) ∧ v3 = .int .i64 x ∧ wr = w1 ∧ (i ≤ 200 → 44 * (np : Int) ≤ x ∧ x ≤ 44 * (np : Int) + (i : Int) * 140737488351232)) (fun _ _ v _ => nk - (intOf v).toNat)
 case atStart => exact ⟨0,_,by omega,rfl,rfl,rfl,fun _ => by omega⟩
 case round =>
  obtain ⟨i,x,hi,rfl,rfl,hwr,hxx⟩ := hrel
  have HX := hid hxx
  clear hxx
  subst wr
  by_cases hlt : i < nk
  ·obtain ⟨s,hs⟩ : ∃ s,nd.ks[i]? = some s := ⟨_,List.getElem?_eq_getElem (by have := HNK.out; omega)⟩
   obtain ⟨b1,o1,rfl,g1⟩ := HK.out i s hs
   have hix := index_sl b1 o1 nk ck i hlt
   have HLT := hid hlt
   have iI : (i : Int) < (nk : Int) := by omega
   have i0 : (0 : Int) ≤ (i : Int) := by omega
   have HSZ := hid (HKZ.out i s hs)
   clear hi hlt hs
   go_wp2_with fail
   go_roundw
   case rel => exact ⟨i + 1,_,by have := HLT.out; omega,by go_num,rfl,trivial,fun h => by (have hx := HX.out (by omega); have hs : (s.size : Int) ≤ 140737488351232 := by (have := HSZ.out; omega)); rw [wrap_in _ (by omega) (by omega)]; omega⟩
   case measure => simp [intOf]; have := HLT.out; omega
  ·obtain rfl : i = nk := by omega
   clear hi hlt
   go_wp2_with fail
   go_loopw [3,7,27] (fun v3 _ v27 wr => ∃ (j : Nat) (x : Int),j ≤ nv ∧ v27 = .int .i64 (j : Int) ∧ v3 = .int .i64 x ∧ wr = w1 ∧ (i ≤ 200 → j ≤ 200 → 44 * (np : Int) ≤ x ∧ x ≤ 44 * (np : Int) + ((i : Int) + (j : Int)) * 140737488351232)) (fun _ _ v _ => nv - (intOf v).toNat)
   case atStart => exact ⟨0,_,by omega,rfl,rfl,rfl,fun h _ => by have := HX.out h; omega⟩
   case round =>
    obtain ⟨j,x,hj,rfl,rfl,hwr,hxx⟩ := hrel
    have HX2 := hid hxx
    clear hxx
    subst wr
    by_cases hlt : j < nv
    ·obtain ⟨s,hs⟩ : ∃ s,nd.vs[j]? = some s := ⟨_,List.getElem?_eq_getElem (by have := HNV.out; omega)⟩
     obtain ⟨b1,o1,rfl,g1⟩ := HV.out j s hs
     have hix := index_sl b1 o1 nv cv j hlt
     have HLT := hid hlt
     have iI : (j : Int) < (nv : Int) := by omega
     have i0 : (0 : Int) ≤ (j : Int) := by omega
     have HSZ := hid (HVZ.out j s hs)
     clear hj hlt hs
     go_wp2_with fail
     go_roundw
     case rel => exact ⟨j + 1,_,by have := HLT.out; omega,by go_num,rfl,trivial,fun h h2 => by (have hx := HX2.out h (by omega); have hs : (s.size : Int) ≤ 140737488351232 := by (have := HSZ.out; omega)); rw [wrap_in _ (by omega) (by omega)]; omega⟩
     case measure => simp [intOf]; have := HLT.out; omega
    ·obtain rfl : j = nv := by omega
     clear hj hlt
     by_cases h1 : 3000 < x
     ·go_wp2_with fail
      go_ret
      first | exact ⟨true,rfl,(fun h => by cases h),HB1.out⟩ | exact .inr ⟨rfl,HB1.out⟩ | exact .inl ⟨rfl,⟨by omega,by omega,by have := HX2.out (by omega) (by omega); omega⟩,HB1.out⟩
     by_cases h2 : 200 < i
     ·have n2 : (200 : Int) < (i : Int) := by omega
      go_wp2_with fail
      go_ret
      first | exact ⟨true,rfl,(fun h => by cases h),HB1.out⟩ | exact .inr ⟨rfl,HB1.out⟩ | exact .inl ⟨rfl,⟨by omega,by omega,by have := HX2.out (by omega) (by omega); omega⟩,HB1.out⟩
     have n2 : ¬ (200 : Int) < (i : Int) := by omega
     by_cases h3 : 200 < j
     ·have n3 : (200 : Int) < (j : Int) := by omega
      go_wp2_with fail
      go_ret
      first | exact ⟨true,rfl,(fun h => by cases h),HB1.out⟩ | exact .inr ⟨rfl,HB1.out⟩ | exact .inl ⟨rfl,⟨by omega,by omega,by have := HX2.out (by omega) (by omega); omega⟩,HB1.out⟩
     ·have n3 : ¬ (200 : Int) < (j : Int) := by omega
      go_wp2_with fail
      go_ret
      first | exact ⟨true,rfl,(fun h => by cases h),HB1.out⟩ | exact .inr ⟨rfl,HB1.out⟩ | exact .inl ⟨rfl,⟨by omega,by omega,by have := HX2.out (by omega) (by omega); omega⟩,HB1.out⟩
abbrev Blk := PtrV × ENode
def blkRow (x : Blk) : List Value := ptrRow x.1 ++ nrow x.2
def zeroE : ENode := (zeroNode,.slice none 0 0,.slice none 0 0,.slice none 0 0)
def zeroBlk : Blk := (zeroPtr,zeroE)
theorem blkRow_length (x : Blk) : (blkRow x).length = 38 := by simp [blkRow,nrow,ptrRow_length]
theorem zero_blk (W : World) : (zeroValue 67).run Tryz.prog W = .ok (.agg (blkRow zeroBlk).toArray) W := by kernel_rfl
def heldV (v : Value) : Option (DataW Value × List MemPlace) := some (.held v, [])
structure BM (w : World) (b c : Nat) (B : Nat → Blk) : Prop where
 map : ∃ D,w.ownsMap Tryz.prog 41 heldV b c D ∧ Maps.IsMap D ∧ ∀ a : Nat,D.atKey (ku a) (.held (.agg (blkRow zeroBlk).toArray)) = .held (.agg (blkRow (B a)).toArray)
theorem BM.lt {w : World} {b c : Nat} {B : Nat → Blk} (h : BM w b c B) : b < w.heap.size := by obtain ⟨D,h1,_⟩ := h.map; exact h1.lt
theorem BM.move {w w' : World} {b c : Nat} {B : Nat → Blk} (h : BM w b c B) (e : w'.heap[b]? = w.heap[b]?) : BM w' b c B := by
 obtain ⟨D,⟨es,clock,hb,F,hs,hD⟩,h2⟩ := h.map
 exact ⟨D,⟨es,clock,e.trans hb,F,hs,hD⟩,h2⟩
theorem BM.below {w w' : World} {b c : Nat} {B : Nat → Blk} (h : BM w b c B) (q : Below w.heap.size w w') : BM w' b c B := h.move (q.block b h.lt)
theorem bm_made (w : World) : BM (w.alloc (.map #[] 0)) w.heap.size 0 (fun _ => zeroBlk) := ⟨_,World.ownsMap_made w _ _ _,Maps.isMap_empty,fun a => rfl⟩
theorem bm_look {w : World} {b c : Nat} {B : Nat → Blk} (h : BM w b c B) (a : Nat) (ha : a < 4294967296) :
 (Instr.lookup 50 (.map (some b)) (.int .u32 (a : Int)) false).run Tryz.prog w = .ok (.agg (blkRow (B a)).toArray) w := by
 obtain ⟨D,h1,_,h5⟩ := h.map
 obtain ⟨v,ps,hr,hv⟩ := h1.lookup (t := 50) (e := 67) (Maps.int_keyed Tryz.underlying41) Tryz.underlying50 (zero_blk w) (zd := .held (.agg (blkRow zeroBlk).toArray)) (zp := []) rfl (keyof_u32 a ha)
 rw [h5 a] at hv
 unfold heldV at hv
 simp only [Option.some.injEq,Prod.mk.injEq,DataW.held.injEq] at hv
 rw [hr,hv.1]
theorem bm_put {w : World} {b c : Nat} {B : Nat → Blk} (h : BM w b c B) (hc : c < 1000000) (a : Nat) (ha : a < 4294967296) (x : Blk) :
 ∃ w',(Instr.mapUpdate 50 (.map (some b)) (.int .u32 (a : Int)) (.agg (blkRow x).toArray)).run Tryz.prog w = .ok () w' ∧ BM w' b (c + 1) (fun j => if j = a then x else B j) ∧ Touch [b] w w' := by
 obtain ⟨D,h1,h2,h5⟩ := h.map
 obtain ⟨w',hr,ho,hg⟩ := h1.update (t := 50) (e := 67) (Maps.int_keyed Tryz.underlying41) Tryz.underlying50 (by unfold maxLen; omega) (keyof_u32 a ha) (val := .agg (blkRow x).toArray) (d := .held (.agg (blkRow x).toArray)) (ps := []) rfl
 refine ⟨w',hr,⟨_,ho,h2.put _ _,fun j => ?_⟩,⟨hg.os,hg.tape,hg.output,hg.size,fun k h1 h2 => hg.block k h1 (by simpa using h2)⟩⟩
 by_cases e : j = a
 ·subst e
  rw [if_pos rfl,Maps.atKey_put_same h2 (by trivial)]
 ·rw [if_neg e,Maps.atKey_put_other (ku_ne e),h5 j]
end Go.Proofs.YtgckapolpifbkaaGreatDoor
