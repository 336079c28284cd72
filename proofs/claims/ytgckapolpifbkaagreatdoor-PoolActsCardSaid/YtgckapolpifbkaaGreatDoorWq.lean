import Derived.Test.YtgckapolpifbkaaGreatDoorWp
import Derived.Test.YtgckapolpifbkaaGreatDoorBy
namespace Go.Proofs.YtgckapolpifbkaaGreatDoor
open Lib (hid)
set_option maxRecDepth 4000
set_option linter.unusedVariables false
open Go.ChangeShapes Go.WideShapes Go.ChangeAt Go.RowKit
theorem readQ_fits13 {kk : List (BitVec 8)} {n : Nat} {q : PtrV} {V : List (BitVec 8)} {ws : List (Nat × List (BitVec 8))} (h0 : q.ad ≠ 0) (hc : checkE q n = 0) (hl : (readM V ws q.ad.toNat).length = 512) (hs : hashS ((readM V ws q.ad.toNat).map yv) = q.su) : (readQ kk n q V ws false).2 = 0 ∨ (readQ kk n q V ws false).2 = 4 := by
 unfold readQ
 rw [if_neg (by simp [h0,hc]),if_neg (by simp)]
 have ho : openA kk q (readM V ws q.ad.toNat) = (sealS kk q.bi.toNat q.ad.toNat (readM V ws q.ad.toNat),0) := by
  unfold openA
  rw [if_neg (by omega),fits_len _ _ hl,if_pos (by simpa using hs)]
 unfold upR
 rw [ho,if_neg (by simp)]
 rcases getN_two _ (show ((sealS kk q.bi.toNat q.ad.toNat (readM V ws q.ad.toNat)).map yv).length = 512 by rw [List.length_map]; exact sealS_length _ _ _ _ hl) with h | h
 ·exact .inl h
 ·exact .inr h.1
theorem size_blk (x : Blk) : (Tryz.prog.info? 67).map (·.size) = some (blkRow x).toArray.size := by
 rw [show (Tryz.prog.info? 67).map (·.size) = some 38 by kernel_rfl,List.size_toArray,blkRow_length]
theorem size_ptrL (x : PtrV) : (Tryz.prog.info? 43).map (·.size) = some (ptrRow x).length := by
 rw [show (Tryz.prog.info? 43).map (·.size) = some 34 by kernel_rfl,ptrRow_length]
theorem size_hashL (x : PtrV) : (Tryz.prog.info? 28).map (·.size) = some (x.su.map (Value.int .u8)).length := by
 rw [show (Tryz.prog.info? 28).map (·.size) = some 32 by kernel_rfl,List.length_map,x.s0.1]
theorem blk_at {w : World} {X t : Nat} {fr : Nat × Nat} {x : Blk} (h : w.heap[X]? = some (.cells (blkRow x).toArray t fr)) : w.rangeAt X 0 (ptrRow x.1) ∧ w.rangeAt X 34 (nrow x.2) := by
 have hr := range_of_row h
 refine ⟨fun j v hj => ?_,fun j v hj => ?_⟩
 ·exact hr j v (by rw [blkRow,List.getElem?_append_left (List.getElem?_eq_some_iff.1 hj).1]; exact hj)
 ·have := hr (34 + j) v (by rw [blkRow,List.getElem?_append_right (by rw [ptrRow_length]; omega),ptrRow_length,Nat.add_sub_cancel_left]; exact hj)
  rwa [Nat.zero_add] at this
section
variable {w0 w : World} {P D gl n b : Nat} {V : List (BitVec 8)} {F F' : Nat → Bool} {ws : List (Nat × List (BitVec 8))} {lim : Int} {dn : Bool} {L : List RowE} {M : List Nat} {R MS G Mb c b' : Nat} {B : Nat → Blk}
set_option maxRecDepth 100000 in
set_option maxHeartbeats 3200000 in
theorem reads13_null (h : QL w0 w P D gl n (keyE ++ macE) F b V ws lim dn L M) (hr : R13 w R MS G Mb n c F' b' B) (q : PtrV) (nd : NodeV) (hrq : readQ keyE n q V ws dn = (nd,2)) (hnb : NB nd ∧ nd.ps.length ≤ 1000000) (hnd : nd = zeroNode) (h0 : q.ad = 0) :
 Calls Tryz.prog 17 #[.pointer (some ⟨P,0,none⟩),.pointer (some ⟨D,0,none⟩),.pointer (some ⟨R,0,none⟩),.int .i64 (n : Int),.agg (ptrRow q).toArray] w fun e w' => e = .returned (.bool true) ∧ Below w.heap.size w w' := by
 have HND := hid hnd
 clear hnd
 have HQ := hid h
 have HRR := hid hr
 have HNB := hid hnb
 have HRD := hid (fun (W : World) (hW : Below w.heap.size w W) => show Calls Tryz.prog 33 #[.pointer (some ⟨P,0,none⟩),.agg (ptrRow q).toArray] W fun e w' => ∃ k v p',e = .returned (.tuple #[.agg #[.bool nd.lf,k,v,p'],.int .i64 2]) ∧ NR w' k v p' nd ∧ Below W.heap.size W w' from by
  have z := ql_read P b F keyE macE q (h.below hW) (h.below hW).pl keyE_length macE_length
  rw [hrq] at z
  exact z)
 have hb1 := (Below.refl w.heap.size w).alloc (Nat.le_refl _) (.cells (ptrRow q).toArray 43)
 have hx1 := heap_alloc_new w (.cells (ptrRow q).toArray 43)
 have sp1 := size_ptrA q
 have hn0 := zero_node0
 have sn2 : nzero.size = (#[.bool nd.lf,.bool true,.bool true,.bool true] : Array Value).size := rfl
 obtain ⟨ZN,hZN⟩ : ∃ z,nzero = z := ⟨_,rfl⟩
 obtain ⟨RQ,hRQ⟩ : ∃ z,(ptrRow q).toArray = z := ⟨_,rfl⟩
 have HRQ := hid hRQ
 have HZN := hid hZN
 rw [hZN] at hn0 sn2
 rw [hRQ] at HRD hb1 hx1 sp1 ⊢
 have SP1 := hid sp1
 have SN2 := hid (fun (k v p : Value) => show ZN.size = (#[.bool nd.lf,k,v,p] : Array Value).size from sn2)
 have HRW := hid hrq
 clear hRQ hZN sp1 sn2 hrq h hr hnb
 generalize hw1 : w.alloc (.cells RQ 43) = w1 at *
 have HB1 := hid hb1
 have HX1 := hid hx1
 clear hb1 hx1
 go_enter Tryz.func17,Tryz.ntmps17
 go_upto_region 1 with fail
 try rw [hw1]
 clear hw1
 go_wp2_with (first
  | (with_reducible refine wpList_load_row (o := ⟨some 18,_,_,_,_,_⟩) rfl 43 _ rfl w.heap.size rfl 43 RQ (0,0) _ HX1.out Tryz.underlying43 rfl SP1.out ?_))
 refine (HRD.out w1 HB1.out).mono ?_
 rintro e w2 ⟨k1,v1,p1,rfl,hn2,hb2⟩
 have HX2 := hid ((hb2.block _ (lt_of_block HX1.out)).trans HX1.out)
 have HB2 := hid (HB1.out.trans (hb2.mono HB1.out.size))
 have HN2 := hid hn2
 have SX1 := hid (size_node nd.lf k1 v1 p1)
 have SX2 := hid (SN2.out k1 v1 p1)
 have SX3 := hid (nr_one hn2 nd.lf)
 clear hn2 hb2 HRD HB1 HX1
 go_upto_region 2 with (first
  | (with_reducible refine wpList_store_row (o := ⟨none,.store _ (.tmp 11) _,_,_,_,_⟩) rfl 38 _ _ rfl w2.heap.size #[.bool nd.lf,k1,v1,p1] rfl rfl 38 ZN (heap_alloc_new w2 _) SX1.out SX2.out SX3.out ?_))
 generalize hWs : World.setRow _ w2.heap.size _ = w3
 have hf := fresh13 w2 ZN #[.bool nd.lf,k1,v1,p1] 38 w3 hWs.symm
 have HY3 := hid hf.1
 have HX3 := hid ((hf.2.block _ (lt_of_block HX2.out)).trans HX2.out)
 have HB3 := hid (HB2.out.trans (hf.2.mono HB2.out.size))
 have HN3 := hid (HN2.out.below hf.2)
 clear hWs hf HX2 HB2 HN2
 generalize w2.heap.size = X11 at *
 have HSA := hid (show Calls Tryz.prog 34 #[.agg #[.bool nd.lf,k1,v1,p1],.agg ZN] w3 fun e w' => e = .returned (.bool true) ∧ Below w3.heap.size w3 w' from by
  have z := nsame_any k1 v1 p1 (.slice none 0 0) (.slice none 0 0) (.slice none 0 0) nd zeroNode w3 HN3.out (nr_zero _) HNB.out.1 nb_zero HNB.out.2 (by decide)
  rw [HND.out,sameN_refl] at z
  rw [← HZN.out,HND.out]
  exact z)
 go_wp2_with (first
  | (with_reducible refine wpList_load_guarded (o := ⟨some 25,_,_,_,_,_⟩) (by kernel_rfl) 38 _ rfl X11 rfl 38 #[.bool nd.lf,k1,v1,p1] (0,0) _ HY3.out Tryz.underlying38 rfl SX1.out ?_))
 refine HSA.out.mono ?_
 rintro e w4 ⟨rfl,hb4⟩
 have HB4 := hid (HB3.out.trans (hb4.mono HB3.out.size))
 have HX4 := hid ((hb4.block _ (lt_of_block HX3.out)).trans HX3.out)
 have HY4 := hid ((hb4.block _ (lt_of_block HY3.out)).trans HY3.out)
 have HN4 := hid (HN3.out.below hb4)
 clear HB3 HX3 HY3 HN3
 clear hb4 HSA
 have HNU := hid (show Calls Tryz.prog 44 #[.agg RQ] w4 fun e w' => e = .returned (.bool true) ∧ Below w4.heap.size w4 w' from by
  have z := pnull_any q w4
  rw [HRQ.out,show (q.ad == 0) = true by simpa using h0] at z
  exact z)
 go_wp2_with (first
  | (with_reducible refine wpList_load_row (o := ⟨some 31,_,_,_,_,_⟩) rfl 43 _ rfl w.heap.size rfl 43 RQ (0,0) _ HX4.out Tryz.underlying43 rfl SP1.out ?_))
 refine HNU.out.mono ?_
 rintro e w5 ⟨rfl,hb5⟩
 have HB5 := hid (HB4.out.trans (hb5.mono HB4.out.size))
 have HX5 := hid ((hb5.block _ (lt_of_block HX4.out)).trans HX4.out)
 have HY5 := hid ((hb5.block _ (lt_of_block HY4.out)).trans HY4.out)
 have HN5 := hid (HN4.out.below hb5)
 clear HB4 HX4 HY4 HN4
 clear hb5 HNU
 go_wp2_with fail
 go_ret
 exact ⟨rfl,HB5.out⟩
set_option maxRecDepth 100000 in
set_option maxHeartbeats 3200000 in
theorem reads13_bad (h : QL w0 w P D gl n (keyE ++ macE) F b V ws lim dn L M) (hr : R13 w R MS G Mb n c F' b' B) (q : PtrV) (nd : NodeV) (hrq : readQ keyE n q V ws dn = (nd,2)) (hnb : NB nd ∧ nd.ps.length ≤ 1000000) (hnd : nd = zeroNode) (h0 : q.ad ≠ 0) (hc : checkE q n ≠ 0) :
 Calls Tryz.prog 17 #[.pointer (some ⟨P,0,none⟩),.pointer (some ⟨D,0,none⟩),.pointer (some ⟨R,0,none⟩),.int .i64 (n : Int),.agg (ptrRow q).toArray] w fun e w' => e = .returned (.bool true) ∧ Below w.heap.size w w' := by
 have HND := hid hnd
 clear hnd
 have HQ := hid h
 have HRR := hid hr
 have HNB := hid hnb
 have HRD := hid (fun (W : World) (hW : Below w.heap.size w W) => show Calls Tryz.prog 33 #[.pointer (some ⟨P,0,none⟩),.agg (ptrRow q).toArray] W fun e w' => ∃ k v p',e = .returned (.tuple #[.agg #[.bool nd.lf,k,v,p'],.int .i64 2]) ∧ NR w' k v p' nd ∧ Below W.heap.size W w' from by
  have z := ql_read P b F keyE macE q (h.below hW) (h.below hW).pl keyE_length macE_length
  rw [hrq] at z
  exact z)
 have hb1 := (Below.refl w.heap.size w).alloc (Nat.le_refl _) (.cells (ptrRow q).toArray 43)
 have hx1 := heap_alloc_new w (.cells (ptrRow q).toArray 43)
 have sp1 := size_ptrA q
 have hn0 := zero_node0
 have sn2 : nzero.size = (#[.bool nd.lf,.bool true,.bool true,.bool true] : Array Value).size := rfl
 obtain ⟨ZN,hZN⟩ : ∃ z,nzero = z := ⟨_,rfl⟩
 obtain ⟨RQ,hRQ⟩ : ∃ z,(ptrRow q).toArray = z := ⟨_,rfl⟩
 have HRQ := hid hRQ
 have HZN := hid hZN
 rw [hZN] at hn0 sn2
 rw [hRQ] at HRD hb1 hx1 sp1 ⊢
 have SP1 := hid sp1
 have SN2 := hid (fun (k v p : Value) => show ZN.size = (#[.bool nd.lf,k,v,p] : Array Value).size from sn2)
 have HRW := hid hrq
 clear hRQ hZN sp1 sn2 hrq h hr hnb
 generalize hw1 : w.alloc (.cells RQ 43) = w1 at *
 have HB1 := hid hb1
 have HX1 := hid hx1
 clear hb1 hx1
 go_enter Tryz.func17,Tryz.ntmps17
 go_upto_region 1 with fail
 try rw [hw1]
 clear hw1
 go_wp2_with (first
  | (with_reducible refine wpList_load_row (o := ⟨some 18,_,_,_,_,_⟩) rfl 43 _ rfl w.heap.size rfl 43 RQ (0,0) _ HX1.out Tryz.underlying43 rfl SP1.out ?_))
 refine (HRD.out w1 HB1.out).mono ?_
 rintro e w2 ⟨k1,v1,p1,rfl,hn2,hb2⟩
 have HX2 := hid ((hb2.block _ (lt_of_block HX1.out)).trans HX1.out)
 have HB2 := hid (HB1.out.trans (hb2.mono HB1.out.size))
 have HN2 := hid hn2
 have SX1 := hid (size_node nd.lf k1 v1 p1)
 have SX2 := hid (SN2.out k1 v1 p1)
 have SX3 := hid (nr_one hn2 nd.lf)
 clear hn2 hb2 HRD HB1 HX1
 go_upto_region 2 with (first
  | (with_reducible refine wpList_store_row (o := ⟨none,.store _ (.tmp 11) _,_,_,_,_⟩) rfl 38 _ _ rfl w2.heap.size #[.bool nd.lf,k1,v1,p1] rfl rfl 38 ZN (heap_alloc_new w2 _) SX1.out SX2.out SX3.out ?_))
 generalize hWs : World.setRow _ w2.heap.size _ = w3
 have hf := fresh13 w2 ZN #[.bool nd.lf,k1,v1,p1] 38 w3 hWs.symm
 have HY3 := hid hf.1
 have HX3 := hid ((hf.2.block _ (lt_of_block HX2.out)).trans HX2.out)
 have HB3 := hid (HB2.out.trans (hf.2.mono HB2.out.size))
 have HN3 := hid (HN2.out.below hf.2)
 clear hWs hf HX2 HB2 HN2
 generalize w2.heap.size = X11 at *
 have HSA := hid (show Calls Tryz.prog 34 #[.agg #[.bool nd.lf,k1,v1,p1],.agg ZN] w3 fun e w' => e = .returned (.bool true) ∧ Below w3.heap.size w3 w' from by
  have z := nsame_any k1 v1 p1 (.slice none 0 0) (.slice none 0 0) (.slice none 0 0) nd zeroNode w3 HN3.out (nr_zero _) HNB.out.1 nb_zero HNB.out.2 (by decide)
  rw [HND.out,sameN_refl] at z
  rw [← HZN.out,HND.out]
  exact z)
 go_wp2_with (first
  | (with_reducible refine wpList_load_guarded (o := ⟨some 25,_,_,_,_,_⟩) (by kernel_rfl) 38 _ rfl X11 rfl 38 #[.bool nd.lf,k1,v1,p1] (0,0) _ HY3.out Tryz.underlying38 rfl SX1.out ?_))
 refine HSA.out.mono ?_
 rintro e w4 ⟨rfl,hb4⟩
 have HB4 := hid (HB3.out.trans (hb4.mono HB3.out.size))
 have HX4 := hid ((hb4.block _ (lt_of_block HX3.out)).trans HX3.out)
 have HY4 := hid ((hb4.block _ (lt_of_block HY3.out)).trans HY3.out)
 have HN4 := hid (HN3.out.below hb4)
 clear HB3 HX3 HY3 HN3
 clear hb4 HSA
 have HNU := hid (show Calls Tryz.prog 44 #[.agg RQ] w4 fun e w' => e = .returned (.bool false) ∧ Below w4.heap.size w4 w' from by
  have z := pnull_any q w4
  rw [HRQ.out,show (q.ad == 0) = false by simpa using h0] at z
  exact z)
 go_wp2_with (first
  | (with_reducible refine wpList_load_row (o := ⟨some 31,_,_,_,_,_⟩) rfl 43 _ rfl w.heap.size rfl 43 RQ (0,0) _ HX4.out Tryz.underlying43 rfl SP1.out ?_))
 refine HNU.out.mono ?_
 rintro e w5 ⟨rfl,hb5⟩
 have HB5 := hid (HB4.out.trans (hb5.mono HB4.out.size))
 have HX5 := hid ((hb5.block _ (lt_of_block HX4.out)).trans HX4.out)
 have HY5 := hid ((hb5.block _ (lt_of_block HY4.out)).trans HY4.out)
 have HN5 := hid (HN4.out.below hb5)
 clear HB4 HX4 HY4 HN4
 clear hb5 HNU
 have HCK := hid (show Calls Tryz.prog 45 #[.agg RQ,.int .i64 (n : Int)] w5 fun e w' => e = .returned (.int .i64 (checkE q n)) ∧ Below w5.heap.size w5 w' from by
  have z := pcheck_any q n w5
  rw [HRQ.out] at z
  exact z)
 have hc1 : (checkE q (n : Int) != 0) = true := by simpa using hc
 go_wp2_with (first
  | (with_reducible refine wpList_load_guarded (o := ⟨some 34,_,_,_,_,_⟩) (by kernel_rfl) 43 _ rfl w.heap.size rfl 43 RQ (0,0) _ HX5.out Tryz.underlying43 rfl SP1.out ?_))
 refine HCK.out.mono ?_
 rintro e w6 ⟨rfl,hb6⟩
 have HB6 := hid (HB5.out.trans (hb6.mono HB5.out.size))
 have HX6 := hid ((hb6.block _ (lt_of_block HX5.out)).trans HX5.out)
 have HY6 := hid ((hb6.block _ (lt_of_block HY5.out)).trans HY5.out)
 have HN6 := hid (HN5.out.below hb6)
 clear HB5 HX5 HY5 HN5
 clear hb6 HCK
 go_wp2_with fail
 go_ret
 exact ⟨rfl,HB6.out⟩
set_option maxRecDepth 100000 in
set_option maxHeartbeats 3200000 in
theorem reads13_down (h : QL w0 w P D gl n (keyE ++ macE) F b V ws lim true L M) (hr : R13 w R MS G Mb n c F' b' B) (q : PtrV) (nd : NodeV) (hrq : readQ keyE n q V ws true = (nd,7)) (hnb : NB nd ∧ nd.ps.length ≤ 1000000) (hnd : nd = zeroNode) (h0 : q.ad ≠ 0) (hc : checkE q n = 0) :
 Calls Tryz.prog 17 #[.pointer (some ⟨P,0,none⟩),.pointer (some ⟨D,0,none⟩),.pointer (some ⟨R,0,none⟩),.int .i64 (n : Int),.agg (ptrRow q).toArray] w fun e w' => e = .returned (.bool true) ∧ Below w.heap.size w w' := by
 have HND := hid hnd
 clear hnd
 have HQ := hid h
 have HRR := hid hr
 have HNB := hid hnb
 have HRD := hid (fun (W : World) (hW : Below w.heap.size w W) => show Calls Tryz.prog 33 #[.pointer (some ⟨P,0,none⟩),.agg (ptrRow q).toArray] W fun e w' => ∃ k v p',e = .returned (.tuple #[.agg #[.bool nd.lf,k,v,p'],.int .i64 7]) ∧ NR w' k v p' nd ∧ Below W.heap.size W w' from by
  have z := ql_read P b F keyE macE q (h.below hW) (h.below hW).pl keyE_length macE_length
  rw [hrq] at z
  exact z)
 have hb1 := (Below.refl w.heap.size w).alloc (Nat.le_refl _) (.cells (ptrRow q).toArray 43)
 have hx1 := heap_alloc_new w (.cells (ptrRow q).toArray 43)
 have sp1 := size_ptrA q
 have hn0 := zero_node0
 have sn2 : nzero.size = (#[.bool nd.lf,.bool true,.bool true,.bool true] : Array Value).size := rfl
 obtain ⟨ZN,hZN⟩ : ∃ z,nzero = z := ⟨_,rfl⟩
 obtain ⟨RQ,hRQ⟩ : ∃ z,(ptrRow q).toArray = z := ⟨_,rfl⟩
 have HRQ := hid hRQ
 have HZN := hid hZN
 rw [hZN] at hn0 sn2
 rw [hRQ] at HRD hb1 hx1 sp1 ⊢
 have SP1 := hid sp1
 have SN2 := hid (fun (k v p : Value) => show ZN.size = (#[.bool nd.lf,k,v,p] : Array Value).size from sn2)
 have HRW := hid hrq
 clear hRQ hZN sp1 sn2 hrq h hr hnb
 generalize hw1 : w.alloc (.cells RQ 43) = w1 at *
 have HB1 := hid hb1
 have HX1 := hid hx1
 clear hb1 hx1
 go_enter Tryz.func17,Tryz.ntmps17
 go_upto_region 1 with fail
 try rw [hw1]
 clear hw1
 go_wp2_with (first
  | (with_reducible refine wpList_load_row (o := ⟨some 18,_,_,_,_,_⟩) rfl 43 _ rfl w.heap.size rfl 43 RQ (0,0) _ HX1.out Tryz.underlying43 rfl SP1.out ?_))
 refine (HRD.out w1 HB1.out).mono ?_
 rintro e w2 ⟨k1,v1,p1,rfl,hn2,hb2⟩
 have HX2 := hid ((hb2.block _ (lt_of_block HX1.out)).trans HX1.out)
 have HB2 := hid (HB1.out.trans (hb2.mono HB1.out.size))
 have HN2 := hid hn2
 have SX1 := hid (size_node nd.lf k1 v1 p1)
 have SX2 := hid (SN2.out k1 v1 p1)
 have SX3 := hid (nr_one hn2 nd.lf)
 clear hn2 hb2 HRD HB1 HX1
 go_upto_region 2 with (first
  | (with_reducible refine wpList_store_row (o := ⟨none,.store _ (.tmp 11) _,_,_,_,_⟩) rfl 38 _ _ rfl w2.heap.size #[.bool nd.lf,k1,v1,p1] rfl rfl 38 ZN (heap_alloc_new w2 _) SX1.out SX2.out SX3.out ?_))
 generalize hWs : World.setRow _ w2.heap.size _ = w3
 have hf := fresh13 w2 ZN #[.bool nd.lf,k1,v1,p1] 38 w3 hWs.symm
 have HY3 := hid hf.1
 have HX3 := hid ((hf.2.block _ (lt_of_block HX2.out)).trans HX2.out)
 have HB3 := hid (HB2.out.trans (hf.2.mono HB2.out.size))
 have HN3 := hid (HN2.out.below hf.2)
 clear hWs hf HX2 HB2 HN2
 generalize w2.heap.size = X11 at *
 have HSA := hid (show Calls Tryz.prog 34 #[.agg #[.bool nd.lf,k1,v1,p1],.agg ZN] w3 fun e w' => e = .returned (.bool true) ∧ Below w3.heap.size w3 w' from by
  have z := nsame_any k1 v1 p1 (.slice none 0 0) (.slice none 0 0) (.slice none 0 0) nd zeroNode w3 HN3.out (nr_zero _) HNB.out.1 nb_zero HNB.out.2 (by decide)
  rw [HND.out,sameN_refl] at z
  rw [← HZN.out,HND.out]
  exact z)
 go_wp2_with (first
  | (with_reducible refine wpList_load_guarded (o := ⟨some 25,_,_,_,_,_⟩) (by kernel_rfl) 38 _ rfl X11 rfl 38 #[.bool nd.lf,k1,v1,p1] (0,0) _ HY3.out Tryz.underlying38 rfl SX1.out ?_))
 refine HSA.out.mono ?_
 rintro e w4 ⟨rfl,hb4⟩
 have HB4 := hid (HB3.out.trans (hb4.mono HB3.out.size))
 have HX4 := hid ((hb4.block _ (lt_of_block HX3.out)).trans HX3.out)
 have HY4 := hid ((hb4.block _ (lt_of_block HY3.out)).trans HY3.out)
 have HN4 := hid (HN3.out.below hb4)
 clear HB3 HX3 HY3 HN3
 clear hb4 HSA
 have HNU := hid (show Calls Tryz.prog 44 #[.agg RQ] w4 fun e w' => e = .returned (.bool false) ∧ Below w4.heap.size w4 w' from by
  have z := pnull_any q w4
  rw [HRQ.out,show (q.ad == 0) = false by simpa using h0] at z
  exact z)
 go_wp2_with (first
  | (with_reducible refine wpList_load_row (o := ⟨some 31,_,_,_,_,_⟩) rfl 43 _ rfl w.heap.size rfl 43 RQ (0,0) _ HX4.out Tryz.underlying43 rfl SP1.out ?_))
 refine HNU.out.mono ?_
 rintro e w5 ⟨rfl,hb5⟩
 have HB5 := hid (HB4.out.trans (hb5.mono HB4.out.size))
 have HX5 := hid ((hb5.block _ (lt_of_block HX4.out)).trans HX4.out)
 have HY5 := hid ((hb5.block _ (lt_of_block HY4.out)).trans HY4.out)
 have HN5 := hid (HN4.out.below hb5)
 clear HB4 HX4 HY4 HN4
 clear hb5 HNU
 have HCK := hid (show Calls Tryz.prog 45 #[.agg RQ,.int .i64 (n : Int)] w5 fun e w' => e = .returned (.int .i64 0) ∧ Below w5.heap.size w5 w' from by
  have z := pcheck_any q n w5
  rw [HRQ.out] at z
  rw [hc] at z
  exact z)
 go_wp2_with (first
  | (with_reducible refine wpList_load_guarded (o := ⟨some 34,_,_,_,_,_⟩) (by kernel_rfl) 43 _ rfl w.heap.size rfl 43 RQ (0,0) _ HX5.out Tryz.underlying43 rfl SP1.out ?_))
 refine HCK.out.mono ?_
 rintro e w6 ⟨rfl,hb6⟩
 have HB6 := hid (HB5.out.trans (hb6.mono HB5.out.size))
 have HX6 := hid ((hb6.block _ (lt_of_block HX5.out)).trans HX5.out)
 have HY6 := hid ((hb6.block _ (lt_of_block HY5.out)).trans HY5.out)
 have HN6 := hid (HN5.out.below hb6)
 clear HB5 HX5 HY5 HN5
 clear hb6 HCK
 have HDN := hid (ql_down (HQ.out.below HB6.out))
 go_wp2_with fail
 refine HDN.out.mono ?_
 rintro e w7 ⟨rfl,hw⟩
 subst w7
 clear HDN
 go_wp2_with fail
 go_ret
 exact ⟨rfl,HB6.out⟩
set_option maxRecDepth 100000 in
set_option maxHeartbeats 3200000 in
theorem reads13_same (h : QL w0 w P D gl n (keyE ++ macE) F b V ws lim false L M) (hr : R13 w R MS G Mb n c F' b' B) (q : PtrV) (nd : NodeV) (hrq : readQ keyE n q V ws false = (nd,0)) (hnb : NB nd ∧ nd.ps.length ≤ 1000000) (a : Nat) (hqa : q.ad = (a : Int)) (ha : a < n) (h0 : q.ad ≠ 0) (hc : checkE q n = 0) (hone : (blkRow (B a)).toArray.all (·.oneCell') = true) (hpq : (B a).1 = q) (hnd : nd = (B a).2.1) (hnr : NR w (B a).2.2.1 (B a).2.2.2.1 (B a).2.2.2.2 (B a).2.1) :
 Calls Tryz.prog 17 #[.pointer (some ⟨P,0,none⟩),.pointer (some ⟨D,0,none⟩),.pointer (some ⟨R,0,none⟩),.int .i64 (n : Int),.agg (ptrRow q).toArray] w fun e w' => e = .returned (.bool true) ∧ Below w.heap.size w w' := by
 have HND := hid hnd
 clear hnd
 have HQ := hid h
 have HRR := hid hr
 have HNB := hid hnb
 have HRD := hid (fun (W : World) (hW : Below w.heap.size w W) => show Calls Tryz.prog 33 #[.pointer (some ⟨P,0,none⟩),.agg (ptrRow q).toArray] W fun e w' => ∃ k v p',e = .returned (.tuple #[.agg #[.bool nd.lf,k,v,p'],.int .i64 0]) ∧ NR w' k v p' nd ∧ Below W.heap.size W w' from by
  have z := ql_read P b F keyE macE q (h.below hW) (h.below hW).pl keyE_length macE_length
  rw [hrq] at z
  exact z)
 have hb1 := (Below.refl w.heap.size w).alloc (Nat.le_refl _) (.cells (ptrRow q).toArray 43)
 have hx1 := heap_alloc_new w (.cells (ptrRow q).toArray 43)
 have sp1 := size_ptrA q
 have hn0 := zero_node0
 have sn2 : nzero.size = (#[.bool nd.lf,.bool true,.bool true,.bool true] : Array Value).size := rfl
 obtain ⟨ZN,hZN⟩ : ∃ z,nzero = z := ⟨_,rfl⟩
 obtain ⟨RQ,hRQ⟩ : ∃ z,(ptrRow q).toArray = z := ⟨_,rfl⟩
 have HRQ := hid hRQ
 have HZN := hid hZN
 rw [hZN] at hn0 sn2
 rw [hRQ] at HRD hb1 hx1 sp1 ⊢
 have SP1 := hid sp1
 have SN2 := hid (fun (k v p : Value) => show ZN.size = (#[.bool nd.lf,k,v,p] : Array Value).size from sn2)
 have HRW := hid hrq
 clear hRQ hZN sp1 sn2 hrq h hr hnb
 generalize hw1 : w.alloc (.cells RQ 43) = w1 at *
 have HB1 := hid hb1
 have HX1 := hid hx1
 clear hb1 hx1
 go_enter Tryz.func17,Tryz.ntmps17
 go_upto_region 1 with fail
 try rw [hw1]
 clear hw1
 go_wp2_with (first
  | (with_reducible refine wpList_load_row (o := ⟨some 18,_,_,_,_,_⟩) rfl 43 _ rfl w.heap.size rfl 43 RQ (0,0) _ HX1.out Tryz.underlying43 rfl SP1.out ?_))
 refine (HRD.out w1 HB1.out).mono ?_
 rintro e w2 ⟨k1,v1,p1,rfl,hn2,hb2⟩
 have HX2 := hid ((hb2.block _ (lt_of_block HX1.out)).trans HX1.out)
 have HB2 := hid (HB1.out.trans (hb2.mono HB1.out.size))
 have HN2 := hid hn2
 have SX1 := hid (size_node nd.lf k1 v1 p1)
 have SX2 := hid (SN2.out k1 v1 p1)
 have SX3 := hid (nr_one hn2 nd.lf)
 clear hn2 hb2 HRD HB1 HX1
 go_upto_region 2 with (first
  | (with_reducible refine wpList_store_row (o := ⟨none,.store _ (.tmp 11) _,_,_,_,_⟩) rfl 38 _ _ rfl w2.heap.size #[.bool nd.lf,k1,v1,p1] rfl rfl 38 ZN (heap_alloc_new w2 _) SX1.out SX2.out SX3.out ?_))
 generalize hWs : World.setRow _ w2.heap.size _ = w3
 have hf := fresh13 w2 ZN #[.bool nd.lf,k1,v1,p1] 38 w3 hWs.symm
 have HY3 := hid hf.1
 have HX3 := hid ((hf.2.block _ (lt_of_block HX2.out)).trans HX2.out)
 have HB3 := hid (HB2.out.trans (hf.2.mono HB2.out.size))
 have HN3 := hid (HN2.out.below hf.2)
 clear hWs hf HX2 HB2 HN2
 generalize w2.heap.size = X11 at *
 have HNU := hid (show Calls Tryz.prog 44 #[.agg RQ] w3 fun e w' => e = .returned (.bool false) ∧ Below w3.heap.size w3 w' from by
  have z := pnull_any q w3
  rw [HRQ.out,show (q.ad == 0) = false by simpa using h0] at z
  exact z)
 go_wp2_with (first
  | (with_reducible refine wpList_load_row (o := ⟨some 31,_,_,_,_,_⟩) rfl 43 _ rfl w.heap.size rfl 43 RQ (0,0) _ HX3.out Tryz.underlying43 rfl SP1.out ?_))
 refine HNU.out.mono ?_
 rintro e w5 ⟨rfl,hb5⟩
 have HB5 := hid (HB3.out.trans (hb5.mono HB3.out.size))
 have HX5 := hid ((hb5.block _ (lt_of_block HX3.out)).trans HX3.out)
 have HY5 := hid ((hb5.block _ (lt_of_block HY3.out)).trans HY3.out)
 have HN5 := hid (HN3.out.below hb5)
 clear HB3 HX3 HY3 HN3
 clear hb5 HNU
 have HCK := hid (show Calls Tryz.prog 45 #[.agg RQ,.int .i64 (n : Int)] w5 fun e w' => e = .returned (.int .i64 0) ∧ Below w5.heap.size w5 w' from by
  have z := pcheck_any q n w5
  rw [HRQ.out] at z
  rw [hc] at z
  exact z)
 go_wp2_with (first
  | (with_reducible refine wpList_load_guarded (o := ⟨some 34,_,_,_,_,_⟩) (by kernel_rfl) 43 _ rfl w.heap.size rfl 43 RQ (0,0) _ HX5.out Tryz.underlying43 rfl SP1.out ?_))
 refine HCK.out.mono ?_
 rintro e w6 ⟨rfl,hb6⟩
 have HB6 := hid (HB5.out.trans (hb6.mono HB5.out.size))
 have HX6 := hid ((hb6.block _ (lt_of_block HX5.out)).trans HX5.out)
 have HY6 := hid ((hb6.block _ (lt_of_block HY5.out)).trans HY5.out)
 have HN6 := hid (HN5.out.below hb6)
 clear HB5 HX5 HY5 HN5
 clear hb6 HCK
 have HDN := hid (ql_down (HQ.out.below HB6.out))
 go_wp2_with fail
 refine HDN.out.mono ?_
 rintro e w7 ⟨rfl,hw⟩
 subst w7
 clear HDN
 go_wp2_with fail
 obtain ⟨BR,hBR⟩ : ∃ z,(blkRow (B a)).toArray = z := ⟨_,rfl⟩
 have HBR := hid hBR
 have hzb := zero_blk
 obtain ⟨ZB,hZB⟩ : ∃ z,(blkRow zeroBlk).toArray = z := ⟨_,rfl⟩
 rw [hZB] at hzb
 have HSB := hid (show (Tryz.prog.info? 67).map (·.size) = some BR.size from by rw [← hBR]; exact size_blk _)
 have HSE := hid (show ZB.size = BR.size from by rw [← hBR,← hZB]; simp [blkRow_length])
 have HSO := hid (show BR.all (·.oneCell') = true from by rw [← hBR]; exact hone)
 have HS := hid (show ∀ W,Below w6.heap.size w6 W → (W.cell? ⟨R,3,none⟩ = some (.map (some Mb)) ∧ W.cell? ⟨w.heap.size,0,none⟩ = some (.int .u32 (a : Int)) ∧ (Instr.lookup 50 (.map (some Mb)) (.int .u32 (a : Int)) false).run Tryz.prog W = .ok (.agg BR) W) from fun W hW => by
  have hB := HB6.out.trans (hW.mono HB6.out.size)
  have hR := HRR.out.below hB
  have hx := (hW.block _ (lt_of_block HX6.out)).trans HX6.out
  rw [← HRQ.out] at hx
  obtain ⟨x0,_,_⟩ := ptr_at hx
  rw [hqa] at x0
  have hl := bm_look hR.mp a (by have := q.a0; omega)
  rw [HBR.out] at hl
  exact ⟨hR.parts.2.2.2,x0,hl⟩)
 clear hBR hZB
 have c2 : w6.cell? ⟨R,3,none⟩ = w6.cell? ⟨R,3,none⟩ := rfl
 clear c2
 go_upto_region 8 with fail
 try simp only [Act.put]
 refine wp_region_noPanic ?_
 have HBD := hid (Below.refl w6.heap.size w6).drew
 refine wp_region_held_drew (S := fun W => W.cell? ⟨R,3,none⟩ = some (.map (some Mb)) ∧ W.cell? ⟨w.heap.size,0,none⟩ = some (.int .u32 (a : Int)) ∧ (Instr.lookup 50 (.map (some Mb)) (.int .u32 (a : Int)) false).run Tryz.prog W = .ok (.agg BR) W) (by kernel_rfl) (HS.out _ HBD.out) (fun hHeld => ?_)
 refine wpAnyH_take (i := 0) (oi := ⟨some 46,_,_,_,_,_⟩) (v := ?_) rfl (by kernel_rfl) (by decide +kernel) (by decide +kernel) (fun _ _ _ h => h) (Or.inl ⟨by rfl, ?_⟩) (by assumption) ?_
 rotate_left 1
 ·(intro w' hSw; go_simp; try with_reducible rfl)
 try simp only [Act.put,List.setIfInBounds_toArray,List.set_cons_zero,List.set_cons_succ]
 refine wpAnyH_take (i := 1) (oi := ⟨some 47,_,_,_,_,_⟩) (v := ?_) rfl (by kernel_rfl) (by decide +kernel) (by decide +kernel) (fun _ _ _ h => h) (Or.inl ⟨by rfl, ?_⟩) (by assumption) ?_
 rotate_left 1
 ·(intro w' hSw; go_simp; try with_reducible rfl)
 try simp only [Act.put,List.setIfInBounds_toArray,List.set_cons_zero,List.set_cons_succ]
 refine wpAnyH_take (i := 2) (oi := ⟨some 48,_,_,_,_,_⟩) (v := ?_) rfl (by kernel_rfl) (by decide +kernel) (by decide +kernel) (fun _ _ _ h => h) (Or.inl ⟨by rfl, ?_⟩) (by assumption) ?_
 rotate_left 1
 ·(intro w' hSw; go_simp; try with_reducible rfl)
 try simp only [Act.put,List.setIfInBounds_toArray,List.set_cons_zero,List.set_cons_succ]
 refine wpAnyH_take (i := 3) (oi := ⟨some 49,_,_,_,_,_⟩) (v := ?_) rfl (by kernel_rfl) (by decide +kernel) (by decide +kernel) (fun _ _ _ h => h) (Or.inl ⟨by rfl, ?_⟩) (by assumption) ?_
 rotate_left 1
 ·(intro w' hSw; have hc := hSw.1; go_simp; try with_reducible rfl)
 try simp only [Act.put,List.setIfInBounds_toArray,List.set_cons_zero,List.set_cons_succ]
 refine wpAnyH_take (i := 4) (oi := ⟨some 50,_,_,_,_,_⟩) (v := ?_) rfl (by kernel_rfl) (by decide +kernel) (by decide +kernel) (fun _ _ _ h => h) (Or.inl ⟨by rfl, ?_⟩) (by assumption) ?_
 rotate_left 1
 ·(intro w' hSw; go_simp; try with_reducible rfl)
 try simp only [Act.put,List.setIfInBounds_toArray,List.set_cons_zero,List.set_cons_succ]
 refine wpAnyH_take (i := 5) (oi := ⟨some 51,_,_,_,_,_⟩) (v := ?_) rfl (by kernel_rfl) (by decide +kernel) (by decide +kernel) (fun _ _ _ h => h) (Or.inl ⟨by rfl, ?_⟩) (by assumption) ?_
 rotate_left 1
 ·(intro w' hSw; have hc := hSw.2.1; go_simp; try with_reducible rfl)
 try simp only [Act.put,List.setIfInBounds_toArray,List.set_cons_zero,List.set_cons_succ]
 refine wpAnyH_take (i := 6) (oi := ⟨some 52,_,_,_,_,_⟩) (v := ?_) rfl (by kernel_rfl) (by decide +kernel) (by decide +kernel) (fun _ _ _ h => h) (Or.inl ⟨by rfl, ?_⟩) (by assumption) ?_
 rotate_left 1
 ·(intro w' hSw; have hl := hSw.2.2; go_simp; try with_reducible rfl)
 try simp only [Act.put,List.setIfInBounds_toArray,List.set_cons_zero,List.set_cons_succ]
 clear hHeld
 refine wpAnyH_ready (rs := [7]) (by decide +kernel) (by simp) ?_
 refine AllReadyH.cons rfl (fun K hK => ?_) AllReadyH.nil
 go_simp
 have hal := HBD.out.alloc HBD.out.size (.cells ZB 67)
 have hxl := heap_alloc_new w6.drew (.cells ZB 67)
 refine hK.out _ _ (HS.out _ hal) (fun hHeld => ?_)
 clear hK K hHeld
 try simp only [Act.put,List.setIfInBounds_toArray,List.set_cons_zero,List.set_cons_succ]
 refine wpAnyH_ready (rs := [8]) (by decide +kernel) (by simp) ?_
 refine AllReadyH.cons rfl (fun K hK => ?_) AllReadyH.nil
 rw [if_pos (by kernel_rfl)]
 refine wp_store_row (o := ⟨none,.store _ (.tmp 13) _,_,_,_,_⟩) 67 _ _ rfl w6.heap.size BR rfl rfl 67 ZB hxl HSB.out HSE.out HSO.out ?_
 have hst := setRow_heap (w6.alloc (.cells ZB 67)).drew w6.heap.size ZB BR 67 (0,0) hxl
 have hb8 : Below w6.heap.size w6 ((w6.alloc (.cells ZB 67)).drew.setRow w6.heap.size BR) := ybelow_row hal (Nat.le_refl w6.heap.size) BR
 refine hK.out _ _ (HS.out _ hb8) (fun hHeld => ?_)
 clear hK K hHeld
 try simp only [Act.put]
 refine wpAnyH_done (by decide +kernel) ?_ _
 refine NoPanic.normal ?_
 generalize hw8 : (w6.alloc (.cells ZB 67)).drew.setRow w6.heap.size BR = w8 at *
 have HZ8 := hid hst
 clear hw8 hal hxl hst HS HBD hzb
 have HB8 := hid (HB6.out.trans (hb8.mono HB6.out.size))
 have HX8 := hid ((hb8.block _ (lt_of_block HX6.out)).trans HX6.out)
 have HY8 := hid ((hb8.block _ (lt_of_block HY6.out)).trans HY6.out)
 have HN8 := hid (HN6.out.below hb8)
 clear HB6 HX6 HY6 HN6
 clear hb8
 generalize w6.heap.size = X13 at *
 have hz8 := HZ8.out
 rw [← HBR.out] at hz8
 obtain ⟨hrA,hrB⟩ := blk_at hz8
 have HRA := hid hrA
 have HRB := hid hrB
 have hx8 := HX8.out
 rw [← HRQ.out] at hx8
 have SPL := hid (size_ptrL (B a).1)
 obtain ⟨BL,hBL⟩ : ∃ z,ptrRow (B a).1 = z := ⟨_,rfl⟩
 have HBL := hid hBL
 rw [hBL] at SPL
 have heq := fun W => eq_ptr (B a).1 q W
 rw [HRQ.out,hBL,decide_eq_true hpq] at heq
 rw [hBL] at hrA
 have HRA' := hid hrA
 have SNL := hid (show (Tryz.prog.info? 38).map (·.size) = some (nrow (B a).2).length from size_node (B a).2.1.lf (B a).2.2.1 (B a).2.2.2.1 (B a).2.2.2.2)
 have HSA := hid (show Calls Tryz.prog 34 #[.agg #[.bool nd.lf,k1,v1,p1],.agg (nrow (B a).2).toArray] w8 fun e w' => e = .returned (.bool true) ∧ Below w8.heap.size w8 w' from by
  have z := nsame_any k1 v1 p1 _ _ _ nd (B a).2.1 w8 HN8.out (hnr.below HB8.out) HNB.out.1 (by rw [← HND.out]; exact HNB.out.1) HNB.out.2 (by rw [← HND.out]; exact HNB.out.2)
  rw [← HND.out,sameN_refl] at z
  rw [HND.out] at z
  exact HND.out ▸ z)
 clear hz8 hx8 hrA hrB hBL hpq
 go_wp2_with (first
  | (with_reducible refine wpList_load_mid (op := ⟨some 54,_,_,_,_,_⟩) rfl 43 _ rfl X13 0 rfl BL _ HRA'.out Tryz.underlying43 rfl SPL.out ?_)
  | (with_reducible refine wpList_load_row (o := ⟨some 55,_,_,_,_,_⟩) rfl 43 _ rfl w.heap.size rfl 43 RQ (0,0) _ HX8.out Tryz.underlying43 rfl SP1.out ?_)
  | (with_reducible refine wpList_load_guarded (o := ⟨some 60,_,_,_,_,_⟩) (by kernel_rfl) 38 _ rfl X11 rfl 38 #[.bool nd.lf,k1,v1,p1] (0,0) _ HY8.out Tryz.underlying38 rfl SX1.out ?_)
  | (with_reducible refine wpList_load_mid13 (op := ⟨some 62,_,_,_,_,_⟩) (by kernel_rfl) 38 _ rfl X13 34 rfl (nrow (B a).2) _ HRB.out Tryz.underlying38 rfl SNL.out ?_))
 refine HSA.out.mono ?_
 rintro e w9 ⟨rfl,hb9⟩
 have HB9 := hid (HB8.out.trans (hb9.mono HB8.out.size))
 have HX9 := hid ((hb9.block _ (lt_of_block HX8.out)).trans HX8.out)
 have HY9 := hid ((hb9.block _ (lt_of_block HY8.out)).trans HY8.out)
 have HN9 := hid (HN8.out.below hb9)
 clear HB8 HX8 HY8 HN8
 go_wp2_with fail
 go_ret
 exact ⟨rfl,HB9.out⟩
set_option maxRecDepth 100000 in
set_option maxHeartbeats 3200000 in
theorem reads13_born0 (h : QL w0 w P D gl n (keyE ++ macE) F b V ws lim false L M) (hr : R13 w R MS G Mb n c F' b' B) (q : PtrV) (nd : NodeV) (hrq : readQ keyE n q V ws false = (nd,0)) (hnb : NB nd ∧ nd.ps.length ≤ 1000000) (a : Nat) (hqa : q.ad = (a : Int)) (ha : a < n) (h0 : q.ad ≠ 0) (hc : checkE q n = 0) (hone : (blkRow (B a)).toArray.all (·.oneCell') = true) (hpq : (B a).1 ≠ q) (had : (B a).1.ad = (a : Int)) (hsu : (B a).1.su = q.su) :
 Calls Tryz.prog 17 #[.pointer (some ⟨P,0,none⟩),.pointer (some ⟨D,0,none⟩),.pointer (some ⟨R,0,none⟩),.int .i64 (n : Int),.agg (ptrRow q).toArray] w fun e w' => e = .returned (.bool true) ∧ Below w.heap.size w w' := by
 have HQ := hid h
 have HRR := hid hr
 have HNB := hid hnb
 have HRD := hid (fun (W : World) (hW : Below w.heap.size w W) => show Calls Tryz.prog 33 #[.pointer (some ⟨P,0,none⟩),.agg (ptrRow q).toArray] W fun e w' => ∃ k v p',e = .returned (.tuple #[.agg #[.bool nd.lf,k,v,p'],.int .i64 0]) ∧ NR w' k v p' nd ∧ Below W.heap.size W w' from by
  have z := ql_read P b F keyE macE q (h.below hW) (h.below hW).pl keyE_length macE_length
  rw [hrq] at z
  exact z)
 have hb1 := (Below.refl w.heap.size w).alloc (Nat.le_refl _) (.cells (ptrRow q).toArray 43)
 have hx1 := heap_alloc_new w (.cells (ptrRow q).toArray 43)
 have sp1 := size_ptrA q
 have hn0 := zero_node0
 have sn2 : nzero.size = (#[.bool nd.lf,.bool true,.bool true,.bool true] : Array Value).size := rfl
 obtain ⟨ZN,hZN⟩ : ∃ z,nzero = z := ⟨_,rfl⟩
 obtain ⟨RQ,hRQ⟩ : ∃ z,(ptrRow q).toArray = z := ⟨_,rfl⟩
 have HRQ := hid hRQ
 have HZN := hid hZN
 rw [hZN] at hn0 sn2
 rw [hRQ] at HRD hb1 hx1 sp1 ⊢
 have SP1 := hid sp1
 have SN2 := hid (fun (k v p : Value) => show ZN.size = (#[.bool nd.lf,k,v,p] : Array Value).size from sn2)
 have HRW := hid hrq
 clear hRQ hZN sp1 sn2 hrq h hr hnb
 generalize hw1 : w.alloc (.cells RQ 43) = w1 at *
 have HB1 := hid hb1
 have HX1 := hid hx1
 clear hb1 hx1
 go_enter Tryz.func17,Tryz.ntmps17
 go_upto_region 1 with fail
 try rw [hw1]
 clear hw1
 go_wp2_with (first
  | (with_reducible refine wpList_load_row (o := ⟨some 18,_,_,_,_,_⟩) rfl 43 _ rfl w.heap.size rfl 43 RQ (0,0) _ HX1.out Tryz.underlying43 rfl SP1.out ?_))
 refine (HRD.out w1 HB1.out).mono ?_
 rintro e w2 ⟨k1,v1,p1,rfl,hn2,hb2⟩
 have HX2 := hid ((hb2.block _ (lt_of_block HX1.out)).trans HX1.out)
 have HB2 := hid (HB1.out.trans (hb2.mono HB1.out.size))
 have HN2 := hid hn2
 have SX1 := hid (size_node nd.lf k1 v1 p1)
 have SX2 := hid (SN2.out k1 v1 p1)
 have SX3 := hid (nr_one hn2 nd.lf)
 clear hn2 hb2 HRD HB1 HX1
 go_upto_region 2 with (first
  | (with_reducible refine wpList_store_row (o := ⟨none,.store _ (.tmp 11) _,_,_,_,_⟩) rfl 38 _ _ rfl w2.heap.size #[.bool nd.lf,k1,v1,p1] rfl rfl 38 ZN (heap_alloc_new w2 _) SX1.out SX2.out SX3.out ?_))
 generalize hWs : World.setRow _ w2.heap.size _ = w3
 have hf := fresh13 w2 ZN #[.bool nd.lf,k1,v1,p1] 38 w3 hWs.symm
 have HY3 := hid hf.1
 have HX3 := hid ((hf.2.block _ (lt_of_block HX2.out)).trans HX2.out)
 have HB3 := hid (HB2.out.trans (hf.2.mono HB2.out.size))
 have HN3 := hid (HN2.out.below hf.2)
 clear hWs hf HX2 HB2 HN2
 generalize w2.heap.size = X11 at *
 have HNU := hid (show Calls Tryz.prog 44 #[.agg RQ] w3 fun e w' => e = .returned (.bool false) ∧ Below w3.heap.size w3 w' from by
  have z := pnull_any q w3
  rw [HRQ.out,show (q.ad == 0) = false by simpa using h0] at z
  exact z)
 go_wp2_with (first
  | (with_reducible refine wpList_load_row (o := ⟨some 31,_,_,_,_,_⟩) rfl 43 _ rfl w.heap.size rfl 43 RQ (0,0) _ HX3.out Tryz.underlying43 rfl SP1.out ?_))
 refine HNU.out.mono ?_
 rintro e w5 ⟨rfl,hb5⟩
 have HB5 := hid (HB3.out.trans (hb5.mono HB3.out.size))
 have HX5 := hid ((hb5.block _ (lt_of_block HX3.out)).trans HX3.out)
 have HY5 := hid ((hb5.block _ (lt_of_block HY3.out)).trans HY3.out)
 have HN5 := hid (HN3.out.below hb5)
 clear HB3 HX3 HY3 HN3
 clear hb5 HNU
 have HCK := hid (show Calls Tryz.prog 45 #[.agg RQ,.int .i64 (n : Int)] w5 fun e w' => e = .returned (.int .i64 0) ∧ Below w5.heap.size w5 w' from by
  have z := pcheck_any q n w5
  rw [HRQ.out] at z
  rw [hc] at z
  exact z)
 go_wp2_with (first
  | (with_reducible refine wpList_load_guarded (o := ⟨some 34,_,_,_,_,_⟩) (by kernel_rfl) 43 _ rfl w.heap.size rfl 43 RQ (0,0) _ HX5.out Tryz.underlying43 rfl SP1.out ?_))
 refine HCK.out.mono ?_
 rintro e w6 ⟨rfl,hb6⟩
 have HB6 := hid (HB5.out.trans (hb6.mono HB5.out.size))
 have HX6 := hid ((hb6.block _ (lt_of_block HX5.out)).trans HX5.out)
 have HY6 := hid ((hb6.block _ (lt_of_block HY5.out)).trans HY5.out)
 have HN6 := hid (HN5.out.below hb6)
 clear HB5 HX5 HY5 HN5
 clear hb6 HCK
 have HDN := hid (ql_down (HQ.out.below HB6.out))
 go_wp2_with fail
 refine HDN.out.mono ?_
 rintro e w7 ⟨rfl,hw⟩
 subst w7
 clear HDN
 go_wp2_with fail
 obtain ⟨BR,hBR⟩ : ∃ z,(blkRow (B a)).toArray = z := ⟨_,rfl⟩
 have HBR := hid hBR
 have hzb := zero_blk
 obtain ⟨ZB,hZB⟩ : ∃ z,(blkRow zeroBlk).toArray = z := ⟨_,rfl⟩
 rw [hZB] at hzb
 have HSB := hid (show (Tryz.prog.info? 67).map (·.size) = some BR.size from by rw [← hBR]; exact size_blk _)
 have HSE := hid (show ZB.size = BR.size from by rw [← hBR,← hZB]; simp [blkRow_length])
 have HSO := hid (show BR.all (·.oneCell') = true from by rw [← hBR]; exact hone)
 have HS := hid (show ∀ W,Below w6.heap.size w6 W → (W.cell? ⟨R,3,none⟩ = some (.map (some Mb)) ∧ W.cell? ⟨w.heap.size,0,none⟩ = some (.int .u32 (a : Int)) ∧ (Instr.lookup 50 (.map (some Mb)) (.int .u32 (a : Int)) false).run Tryz.prog W = .ok (.agg BR) W) from fun W hW => by
  have hB := HB6.out.trans (hW.mono HB6.out.size)
  have hR := HRR.out.below hB
  have hx := (hW.block _ (lt_of_block HX6.out)).trans HX6.out
  rw [← HRQ.out] at hx
  obtain ⟨x0,_,_⟩ := ptr_at hx
  rw [hqa] at x0
  have hl := bm_look hR.mp a (by have := q.a0; omega)
  rw [HBR.out] at hl
  exact ⟨hR.parts.2.2.2,x0,hl⟩)
 clear hBR hZB
 have c2 : w6.cell? ⟨R,3,none⟩ = w6.cell? ⟨R,3,none⟩ := rfl
 clear c2
 go_upto_region 8 with fail
 try simp only [Act.put]
 refine wp_region_noPanic ?_
 have HBD := hid (Below.refl w6.heap.size w6).drew
 refine wp_region_held_drew (S := fun W => W.cell? ⟨R,3,none⟩ = some (.map (some Mb)) ∧ W.cell? ⟨w.heap.size,0,none⟩ = some (.int .u32 (a : Int)) ∧ (Instr.lookup 50 (.map (some Mb)) (.int .u32 (a : Int)) false).run Tryz.prog W = .ok (.agg BR) W) (by kernel_rfl) (HS.out _ HBD.out) (fun hHeld => ?_)
 refine wpAnyH_take (i := 0) (oi := ⟨some 46,_,_,_,_,_⟩) (v := ?_) rfl (by kernel_rfl) (by decide +kernel) (by decide +kernel) (fun _ _ _ h => h) (Or.inl ⟨by rfl, ?_⟩) (by assumption) ?_
 rotate_left 1
 ·(intro w' hSw; go_simp; try with_reducible rfl)
 try simp only [Act.put,List.setIfInBounds_toArray,List.set_cons_zero,List.set_cons_succ]
 refine wpAnyH_take (i := 1) (oi := ⟨some 47,_,_,_,_,_⟩) (v := ?_) rfl (by kernel_rfl) (by decide +kernel) (by decide +kernel) (fun _ _ _ h => h) (Or.inl ⟨by rfl, ?_⟩) (by assumption) ?_
 rotate_left 1
 ·(intro w' hSw; go_simp; try with_reducible rfl)
 try simp only [Act.put,List.setIfInBounds_toArray,List.set_cons_zero,List.set_cons_succ]
 refine wpAnyH_take (i := 2) (oi := ⟨some 48,_,_,_,_,_⟩) (v := ?_) rfl (by kernel_rfl) (by decide +kernel) (by decide +kernel) (fun _ _ _ h => h) (Or.inl ⟨by rfl, ?_⟩) (by assumption) ?_
 rotate_left 1
 ·(intro w' hSw; go_simp; try with_reducible rfl)
 try simp only [Act.put,List.setIfInBounds_toArray,List.set_cons_zero,List.set_cons_succ]
 refine wpAnyH_take (i := 3) (oi := ⟨some 49,_,_,_,_,_⟩) (v := ?_) rfl (by kernel_rfl) (by decide +kernel) (by decide +kernel) (fun _ _ _ h => h) (Or.inl ⟨by rfl, ?_⟩) (by assumption) ?_
 rotate_left 1
 ·(intro w' hSw; have hc := hSw.1; go_simp; try with_reducible rfl)
 try simp only [Act.put,List.setIfInBounds_toArray,List.set_cons_zero,List.set_cons_succ]
 refine wpAnyH_take (i := 4) (oi := ⟨some 50,_,_,_,_,_⟩) (v := ?_) rfl (by kernel_rfl) (by decide +kernel) (by decide +kernel) (fun _ _ _ h => h) (Or.inl ⟨by rfl, ?_⟩) (by assumption) ?_
 rotate_left 1
 ·(intro w' hSw; go_simp; try with_reducible rfl)
 try simp only [Act.put,List.setIfInBounds_toArray,List.set_cons_zero,List.set_cons_succ]
 refine wpAnyH_take (i := 5) (oi := ⟨some 51,_,_,_,_,_⟩) (v := ?_) rfl (by kernel_rfl) (by decide +kernel) (by decide +kernel) (fun _ _ _ h => h) (Or.inl ⟨by rfl, ?_⟩) (by assumption) ?_
 rotate_left 1
 ·(intro w' hSw; have hc := hSw.2.1; go_simp; try with_reducible rfl)
 try simp only [Act.put,List.setIfInBounds_toArray,List.set_cons_zero,List.set_cons_succ]
 refine wpAnyH_take (i := 6) (oi := ⟨some 52,_,_,_,_,_⟩) (v := ?_) rfl (by kernel_rfl) (by decide +kernel) (by decide +kernel) (fun _ _ _ h => h) (Or.inl ⟨by rfl, ?_⟩) (by assumption) ?_
 rotate_left 1
 ·(intro w' hSw; have hl := hSw.2.2; go_simp; try with_reducible rfl)
 try simp only [Act.put,List.setIfInBounds_toArray,List.set_cons_zero,List.set_cons_succ]
 clear hHeld
 refine wpAnyH_ready (rs := [7]) (by decide +kernel) (by simp) ?_
 refine AllReadyH.cons rfl (fun K hK => ?_) AllReadyH.nil
 go_simp
 have hal := HBD.out.alloc HBD.out.size (.cells ZB 67)
 have hxl := heap_alloc_new w6.drew (.cells ZB 67)
 refine hK.out _ _ (HS.out _ hal) (fun hHeld => ?_)
 clear hK K hHeld
 try simp only [Act.put,List.setIfInBounds_toArray,List.set_cons_zero,List.set_cons_succ]
 refine wpAnyH_ready (rs := [8]) (by decide +kernel) (by simp) ?_
 refine AllReadyH.cons rfl (fun K hK => ?_) AllReadyH.nil
 rw [if_pos (by kernel_rfl)]
 refine wp_store_row (o := ⟨none,.store _ (.tmp 13) _,_,_,_,_⟩) 67 _ _ rfl w6.heap.size BR rfl rfl 67 ZB hxl HSB.out HSE.out HSO.out ?_
 have hst := setRow_heap (w6.alloc (.cells ZB 67)).drew w6.heap.size ZB BR 67 (0,0) hxl
 have hb8 : Below w6.heap.size w6 ((w6.alloc (.cells ZB 67)).drew.setRow w6.heap.size BR) := ybelow_row hal (Nat.le_refl w6.heap.size) BR
 refine hK.out _ _ (HS.out _ hb8) (fun hHeld => ?_)
 clear hK K hHeld
 try simp only [Act.put]
 refine wpAnyH_done (by decide +kernel) ?_ _
 refine NoPanic.normal ?_
 generalize hw8 : (w6.alloc (.cells ZB 67)).drew.setRow w6.heap.size BR = w8 at *
 have HZ8 := hid hst
 clear hw8 hal hxl hst HS HBD hzb
 have HB8 := hid (HB6.out.trans (hb8.mono HB6.out.size))
 have HX8 := hid ((hb8.block _ (lt_of_block HX6.out)).trans HX6.out)
 have HY8 := hid ((hb8.block _ (lt_of_block HY6.out)).trans HY6.out)
 have HN8 := hid (HN6.out.below hb8)
 clear HB6 HX6 HY6 HN6
 clear hb8
 generalize w6.heap.size = X13 at *
 have hz8 := HZ8.out
 rw [← HBR.out] at hz8
 obtain ⟨hrA,hrB⟩ := blk_at hz8
 have HRA := hid hrA
 have HRB := hid hrB
 have hx8 := HX8.out
 rw [← HRQ.out] at hx8
 have SPL := hid (size_ptrL (B a).1)
 obtain ⟨BL,hBL⟩ : ∃ z,ptrRow (B a).1 = z := ⟨_,rfl⟩
 have HBL := hid hBL
 rw [hBL] at SPL
 obtain ⟨xa,_,xs⟩ := ptr_at hx8
 rw [hqa] at xa
 obtain ⟨ya,_,ys⟩ := ptr_range hrA
 have HXS := hid xs
 have HYS := hid ys
 have SH1 := hid (size_hashL q)
 have SH2 := hid (size_hashL (B a).1)
 rw [hBL] at hrA
 have HRA' := hid hrA
 obtain ⟨HA,hHA⟩ : ∃ z,(B a).1.su.map (Value.int .u8) = z := ⟨_,rfl⟩
 obtain ⟨HC,hHC⟩ : ∃ z,q.su.map (Value.int .u8) = z := ⟨_,rfl⟩
 have HHC := hid hHC
 rw [hHA] at HYS SH2
 rw [hHC] at HXS SH1
 have heq := fun W => eq_ptr (B a).1 q W
 rw [HRQ.out,hBL,decide_eq_false hpq] at heq
 have heh := fun W => eq_hash (B a).1.su q.su (B a).1.s0.1 q.s0.1 (B a).1.s0.2 q.s0.2 W
 unfold u8s at heh
 rw [decide_eq_true hsu] at heh
 rw [hHA,hHC] at heh
 rw [had] at ya
 clear hz8 hx8 hrA hrB hBL hpq hHA hHC hsu xs ys
 go_wp2_with (first
  | (with_reducible refine wpList_load_mid (op := ⟨some 54,_,_,_,_,_⟩) rfl 43 _ rfl X13 0 rfl BL _ HRA'.out Tryz.underlying43 rfl SPL.out ?_)
  | (with_reducible refine wpList_load_row (o := ⟨some 55,_,_,_,_,_⟩) rfl 43 _ rfl w.heap.size rfl 43 RQ (0,0) _ HX8.out Tryz.underlying43 rfl SP1.out ?_)
  | (with_reducible refine wpList_load_mid13 (op := ⟨some 74,_,_,_,_,_⟩) (by kernel_rfl) 28 _ rfl X13 2 rfl HA _ HYS.out Tryz.underlying28 rfl SH2.out ?_)
  | (with_reducible refine wpList_load_mid13 (op := ⟨some 76,_,_,_,_,_⟩) (by kernel_rfl) 28 _ rfl w.heap.size 2 rfl HC _ HXS.out Tryz.underlying28 rfl SH1.out ?_))
 go_ret
 exact ⟨rfl,HB8.out⟩
set_option maxRecDepth 100000 in
set_option maxHeartbeats 3200000 in
theorem reads13_born4 (h : QL w0 w P D gl n (keyE ++ macE) F b V ws lim false L M) (hr : R13 w R MS G Mb n c F' b' B) (q : PtrV) (nd : NodeV) (hrq : readQ keyE n q V ws false = (nd,4)) (hnb : NB nd ∧ nd.ps.length ≤ 1000000) (hnd : nd = zeroNode) (a : Nat) (hqa : q.ad = (a : Int)) (ha : a < n) (h0 : q.ad ≠ 0) (hc : checkE q n = 0) (hone : (blkRow (B a)).toArray.all (·.oneCell') = true) (hpq : (B a).1 ≠ q) (had : (B a).1.ad = (a : Int)) (hsu : (B a).1.su = q.su) :
 Calls Tryz.prog 17 #[.pointer (some ⟨P,0,none⟩),.pointer (some ⟨D,0,none⟩),.pointer (some ⟨R,0,none⟩),.int .i64 (n : Int),.agg (ptrRow q).toArray] w fun e w' => e = .returned (.bool true) ∧ Below w.heap.size w w' := by
 have HND := hid hnd
 clear hnd
 have HQ := hid h
 have HRR := hid hr
 have HNB := hid hnb
 have HRD := hid (fun (W : World) (hW : Below w.heap.size w W) => show Calls Tryz.prog 33 #[.pointer (some ⟨P,0,none⟩),.agg (ptrRow q).toArray] W fun e w' => ∃ k v p',e = .returned (.tuple #[.agg #[.bool nd.lf,k,v,p'],.int .i64 4]) ∧ NR w' k v p' nd ∧ Below W.heap.size W w' from by
  have z := ql_read P b F keyE macE q (h.below hW) (h.below hW).pl keyE_length macE_length
  rw [hrq] at z
  exact z)
 have hb1 := (Below.refl w.heap.size w).alloc (Nat.le_refl _) (.cells (ptrRow q).toArray 43)
 have hx1 := heap_alloc_new w (.cells (ptrRow q).toArray 43)
 have sp1 := size_ptrA q
 have hn0 := zero_node0
 have sn2 : nzero.size = (#[.bool nd.lf,.bool true,.bool true,.bool true] : Array Value).size := rfl
 obtain ⟨ZN,hZN⟩ : ∃ z,nzero = z := ⟨_,rfl⟩
 obtain ⟨RQ,hRQ⟩ : ∃ z,(ptrRow q).toArray = z := ⟨_,rfl⟩
 have HRQ := hid hRQ
 have HZN := hid hZN
 rw [hZN] at hn0 sn2
 rw [hRQ] at HRD hb1 hx1 sp1 ⊢
 have SP1 := hid sp1
 have SN2 := hid (fun (k v p : Value) => show ZN.size = (#[.bool nd.lf,k,v,p] : Array Value).size from sn2)
 have HRW := hid hrq
 clear hRQ hZN sp1 sn2 hrq h hr hnb
 generalize hw1 : w.alloc (.cells RQ 43) = w1 at *
 have HB1 := hid hb1
 have HX1 := hid hx1
 clear hb1 hx1
 go_enter Tryz.func17,Tryz.ntmps17
 go_upto_region 1 with fail
 try rw [hw1]
 clear hw1
 go_wp2_with (first
  | (with_reducible refine wpList_load_row (o := ⟨some 18,_,_,_,_,_⟩) rfl 43 _ rfl w.heap.size rfl 43 RQ (0,0) _ HX1.out Tryz.underlying43 rfl SP1.out ?_))
 refine (HRD.out w1 HB1.out).mono ?_
 rintro e w2 ⟨k1,v1,p1,rfl,hn2,hb2⟩
 have HX2 := hid ((hb2.block _ (lt_of_block HX1.out)).trans HX1.out)
 have HB2 := hid (HB1.out.trans (hb2.mono HB1.out.size))
 have HN2 := hid hn2
 have SX1 := hid (size_node nd.lf k1 v1 p1)
 have SX2 := hid (SN2.out k1 v1 p1)
 have SX3 := hid (nr_one hn2 nd.lf)
 clear hn2 hb2 HRD HB1 HX1
 go_upto_region 2 with (first
  | (with_reducible refine wpList_store_row (o := ⟨none,.store _ (.tmp 11) _,_,_,_,_⟩) rfl 38 _ _ rfl w2.heap.size #[.bool nd.lf,k1,v1,p1] rfl rfl 38 ZN (heap_alloc_new w2 _) SX1.out SX2.out SX3.out ?_))
 generalize hWs : World.setRow _ w2.heap.size _ = w3
 have hf := fresh13 w2 ZN #[.bool nd.lf,k1,v1,p1] 38 w3 hWs.symm
 have HY3 := hid hf.1
 have HX3 := hid ((hf.2.block _ (lt_of_block HX2.out)).trans HX2.out)
 have HB3 := hid (HB2.out.trans (hf.2.mono HB2.out.size))
 have HN3 := hid (HN2.out.below hf.2)
 clear hWs hf HX2 HB2 HN2
 generalize w2.heap.size = X11 at *
 have HSA := hid (show Calls Tryz.prog 34 #[.agg #[.bool nd.lf,k1,v1,p1],.agg ZN] w3 fun e w' => e = .returned (.bool true) ∧ Below w3.heap.size w3 w' from by
  have z := nsame_any k1 v1 p1 (.slice none 0 0) (.slice none 0 0) (.slice none 0 0) nd zeroNode w3 HN3.out (nr_zero _) HNB.out.1 nb_zero HNB.out.2 (by decide)
  rw [HND.out,sameN_refl] at z
  rw [← HZN.out,HND.out]
  exact z)
 go_wp2_with (first
  | (with_reducible refine wpList_load_guarded (o := ⟨some 25,_,_,_,_,_⟩) (by kernel_rfl) 38 _ rfl X11 rfl 38 #[.bool nd.lf,k1,v1,p1] (0,0) _ HY3.out Tryz.underlying38 rfl SX1.out ?_))
 refine HSA.out.mono ?_
 rintro e w4 ⟨rfl,hb4⟩
 have HB4 := hid (HB3.out.trans (hb4.mono HB3.out.size))
 have HX4 := hid ((hb4.block _ (lt_of_block HX3.out)).trans HX3.out)
 have HY4 := hid ((hb4.block _ (lt_of_block HY3.out)).trans HY3.out)
 have HN4 := hid (HN3.out.below hb4)
 clear HB3 HX3 HY3 HN3
 clear hb4 HSA
 have HNU := hid (show Calls Tryz.prog 44 #[.agg RQ] w4 fun e w' => e = .returned (.bool false) ∧ Below w4.heap.size w4 w' from by
  have z := pnull_any q w4
  rw [HRQ.out,show (q.ad == 0) = false by simpa using h0] at z
  exact z)
 go_wp2_with (first
  | (with_reducible refine wpList_load_row (o := ⟨some 31,_,_,_,_,_⟩) rfl 43 _ rfl w.heap.size rfl 43 RQ (0,0) _ HX4.out Tryz.underlying43 rfl SP1.out ?_))
 refine HNU.out.mono ?_
 rintro e w5 ⟨rfl,hb5⟩
 have HB5 := hid (HB4.out.trans (hb5.mono HB4.out.size))
 have HX5 := hid ((hb5.block _ (lt_of_block HX4.out)).trans HX4.out)
 have HY5 := hid ((hb5.block _ (lt_of_block HY4.out)).trans HY4.out)
 have HN5 := hid (HN4.out.below hb5)
 clear HB4 HX4 HY4 HN4
 clear hb5 HNU
 have HCK := hid (show Calls Tryz.prog 45 #[.agg RQ,.int .i64 (n : Int)] w5 fun e w' => e = .returned (.int .i64 0) ∧ Below w5.heap.size w5 w' from by
  have z := pcheck_any q n w5
  rw [HRQ.out] at z
  rw [hc] at z
  exact z)
 go_wp2_with (first
  | (with_reducible refine wpList_load_guarded (o := ⟨some 34,_,_,_,_,_⟩) (by kernel_rfl) 43 _ rfl w.heap.size rfl 43 RQ (0,0) _ HX5.out Tryz.underlying43 rfl SP1.out ?_))
 refine HCK.out.mono ?_
 rintro e w6 ⟨rfl,hb6⟩
 have HB6 := hid (HB5.out.trans (hb6.mono HB5.out.size))
 have HX6 := hid ((hb6.block _ (lt_of_block HX5.out)).trans HX5.out)
 have HY6 := hid ((hb6.block _ (lt_of_block HY5.out)).trans HY5.out)
 have HN6 := hid (HN5.out.below hb6)
 clear HB5 HX5 HY5 HN5
 clear hb6 HCK
 have HDN := hid (ql_down (HQ.out.below HB6.out))
 go_wp2_with fail
 refine HDN.out.mono ?_
 rintro e w7 ⟨rfl,hw⟩
 subst w7
 clear HDN
 go_wp2_with fail
 obtain ⟨BR,hBR⟩ : ∃ z,(blkRow (B a)).toArray = z := ⟨_,rfl⟩
 have HBR := hid hBR
 have hzb := zero_blk
 obtain ⟨ZB,hZB⟩ : ∃ z,(blkRow zeroBlk).toArray = z := ⟨_,rfl⟩
 rw [hZB] at hzb
 have HSB := hid (show (Tryz.prog.info? 67).map (·.size) = some BR.size from by rw [← hBR]; exact size_blk _)
 have HSE := hid (show ZB.size = BR.size from by rw [← hBR,← hZB]; simp [blkRow_length])
 have HSO := hid (show BR.all (·.oneCell') = true from by rw [← hBR]; exact hone)
 have HS := hid (show ∀ W,Below w6.heap.size w6 W → (W.cell? ⟨R,3,none⟩ = some (.map (some Mb)) ∧ W.cell? ⟨w.heap.size,0,none⟩ = some (.int .u32 (a : Int)) ∧ (Instr.lookup 50 (.map (some Mb)) (.int .u32 (a : Int)) false).run Tryz.prog W = .ok (.agg BR) W) from fun W hW => by
  have hB := HB6.out.trans (hW.mono HB6.out.size)
  have hR := HRR.out.below hB
  have hx := (hW.block _ (lt_of_block HX6.out)).trans HX6.out
  rw [← HRQ.out] at hx
  obtain ⟨x0,_,_⟩ := ptr_at hx
  rw [hqa] at x0
  have hl := bm_look hR.mp a (by have := q.a0; omega)
  rw [HBR.out] at hl
  exact ⟨hR.parts.2.2.2,x0,hl⟩)
 clear hBR hZB
 have c2 : w6.cell? ⟨R,3,none⟩ = w6.cell? ⟨R,3,none⟩ := rfl
 clear c2
 go_upto_region 8 with fail
 try simp only [Act.put]
 refine wp_region_noPanic ?_
 have HBD := hid (Below.refl w6.heap.size w6).drew
 refine wp_region_held_drew (S := fun W => W.cell? ⟨R,3,none⟩ = some (.map (some Mb)) ∧ W.cell? ⟨w.heap.size,0,none⟩ = some (.int .u32 (a : Int)) ∧ (Instr.lookup 50 (.map (some Mb)) (.int .u32 (a : Int)) false).run Tryz.prog W = .ok (.agg BR) W) (by kernel_rfl) (HS.out _ HBD.out) (fun hHeld => ?_)
 refine wpAnyH_take (i := 0) (oi := ⟨some 46,_,_,_,_,_⟩) (v := ?_) rfl (by kernel_rfl) (by decide +kernel) (by decide +kernel) (fun _ _ _ h => h) (Or.inl ⟨by rfl, ?_⟩) (by assumption) ?_
 rotate_left 1
 ·(intro w' hSw; go_simp; try with_reducible rfl)
 try simp only [Act.put,List.setIfInBounds_toArray,List.set_cons_zero,List.set_cons_succ]
 refine wpAnyH_take (i := 1) (oi := ⟨some 47,_,_,_,_,_⟩) (v := ?_) rfl (by kernel_rfl) (by decide +kernel) (by decide +kernel) (fun _ _ _ h => h) (Or.inl ⟨by rfl, ?_⟩) (by assumption) ?_
 rotate_left 1
 ·(intro w' hSw; go_simp; try with_reducible rfl)
 try simp only [Act.put,List.setIfInBounds_toArray,List.set_cons_zero,List.set_cons_succ]
 refine wpAnyH_take (i := 2) (oi := ⟨some 48,_,_,_,_,_⟩) (v := ?_) rfl (by kernel_rfl) (by decide +kernel) (by decide +kernel) (fun _ _ _ h => h) (Or.inl ⟨by rfl, ?_⟩) (by assumption) ?_
 rotate_left 1
 ·(intro w' hSw; go_simp; try with_reducible rfl)
 try simp only [Act.put,List.setIfInBounds_toArray,List.set_cons_zero,List.set_cons_succ]
 refine wpAnyH_take (i := 3) (oi := ⟨some 49,_,_,_,_,_⟩) (v := ?_) rfl (by kernel_rfl) (by decide +kernel) (by decide +kernel) (fun _ _ _ h => h) (Or.inl ⟨by rfl, ?_⟩) (by assumption) ?_
 rotate_left 1
 ·(intro w' hSw; have hc := hSw.1; go_simp; try with_reducible rfl)
 try simp only [Act.put,List.setIfInBounds_toArray,List.set_cons_zero,List.set_cons_succ]
 refine wpAnyH_take (i := 4) (oi := ⟨some 50,_,_,_,_,_⟩) (v := ?_) rfl (by kernel_rfl) (by decide +kernel) (by decide +kernel) (fun _ _ _ h => h) (Or.inl ⟨by rfl, ?_⟩) (by assumption) ?_
 rotate_left 1
 ·(intro w' hSw; go_simp; try with_reducible rfl)
 try simp only [Act.put,List.setIfInBounds_toArray,List.set_cons_zero,List.set_cons_succ]
 refine wpAnyH_take (i := 5) (oi := ⟨some 51,_,_,_,_,_⟩) (v := ?_) rfl (by kernel_rfl) (by decide +kernel) (by decide +kernel) (fun _ _ _ h => h) (Or.inl ⟨by rfl, ?_⟩) (by assumption) ?_
 rotate_left 1
 ·(intro w' hSw; have hc := hSw.2.1; go_simp; try with_reducible rfl)
 try simp only [Act.put,List.setIfInBounds_toArray,List.set_cons_zero,List.set_cons_succ]
 refine wpAnyH_take (i := 6) (oi := ⟨some 52,_,_,_,_,_⟩) (v := ?_) rfl (by kernel_rfl) (by decide +kernel) (by decide +kernel) (fun _ _ _ h => h) (Or.inl ⟨by rfl, ?_⟩) (by assumption) ?_
 rotate_left 1
 ·(intro w' hSw; have hl := hSw.2.2; go_simp; try with_reducible rfl)
 try simp only [Act.put,List.setIfInBounds_toArray,List.set_cons_zero,List.set_cons_succ]
 clear hHeld
 refine wpAnyH_ready (rs := [7]) (by decide +kernel) (by simp) ?_
 refine AllReadyH.cons rfl (fun K hK => ?_) AllReadyH.nil
 go_simp
 have hal := HBD.out.alloc HBD.out.size (.cells ZB 67)
 have hxl := heap_alloc_new w6.drew (.cells ZB 67)
 refine hK.out _ _ (HS.out _ hal) (fun hHeld => ?_)
 clear hK K hHeld
 try simp only [Act.put,List.setIfInBounds_toArray,List.set_cons_zero,List.set_cons_succ]
 refine wpAnyH_ready (rs := [8]) (by decide +kernel) (by simp) ?_
 refine AllReadyH.cons rfl (fun K hK => ?_) AllReadyH.nil
 rw [if_pos (by kernel_rfl)]
 refine wp_store_row (o := ⟨none,.store _ (.tmp 13) _,_,_,_,_⟩) 67 _ _ rfl w6.heap.size BR rfl rfl 67 ZB hxl HSB.out HSE.out HSO.out ?_
 have hst := setRow_heap (w6.alloc (.cells ZB 67)).drew w6.heap.size ZB BR 67 (0,0) hxl
 have hb8 : Below w6.heap.size w6 ((w6.alloc (.cells ZB 67)).drew.setRow w6.heap.size BR) := ybelow_row hal (Nat.le_refl w6.heap.size) BR
 refine hK.out _ _ (HS.out _ hb8) (fun hHeld => ?_)
 clear hK K hHeld
 try simp only [Act.put]
 refine wpAnyH_done (by decide +kernel) ?_ _
 refine NoPanic.normal ?_
 generalize hw8 : (w6.alloc (.cells ZB 67)).drew.setRow w6.heap.size BR = w8 at *
 have HZ8 := hid hst
 clear hw8 hal hxl hst HS HBD hzb
 have HB8 := hid (HB6.out.trans (hb8.mono HB6.out.size))
 have HX8 := hid ((hb8.block _ (lt_of_block HX6.out)).trans HX6.out)
 have HY8 := hid ((hb8.block _ (lt_of_block HY6.out)).trans HY6.out)
 have HN8 := hid (HN6.out.below hb8)
 clear HB6 HX6 HY6 HN6
 clear hb8
 generalize w6.heap.size = X13 at *
 have hz8 := HZ8.out
 rw [← HBR.out] at hz8
 obtain ⟨hrA,hrB⟩ := blk_at hz8
 have HRA := hid hrA
 have HRB := hid hrB
 have hx8 := HX8.out
 rw [← HRQ.out] at hx8
 have SPL := hid (size_ptrL (B a).1)
 obtain ⟨BL,hBL⟩ : ∃ z,ptrRow (B a).1 = z := ⟨_,rfl⟩
 have HBL := hid hBL
 rw [hBL] at SPL
 obtain ⟨xa,_,xs⟩ := ptr_at hx8
 rw [hqa] at xa
 obtain ⟨ya,_,ys⟩ := ptr_range hrA
 have HXS := hid xs
 have HYS := hid ys
 have SH1 := hid (size_hashL q)
 have SH2 := hid (size_hashL (B a).1)
 rw [hBL] at hrA
 have HRA' := hid hrA
 obtain ⟨HA,hHA⟩ : ∃ z,(B a).1.su.map (Value.int .u8) = z := ⟨_,rfl⟩
 obtain ⟨HC,hHC⟩ : ∃ z,q.su.map (Value.int .u8) = z := ⟨_,rfl⟩
 have HHC := hid hHC
 rw [hHA] at HYS SH2
 rw [hHC] at HXS SH1
 have heq := fun W => eq_ptr (B a).1 q W
 rw [HRQ.out,hBL,decide_eq_false hpq] at heq
 have heh := fun W => eq_hash (B a).1.su q.su (B a).1.s0.1 q.s0.1 (B a).1.s0.2 q.s0.2 W
 unfold u8s at heh
 rw [decide_eq_true hsu] at heh
 rw [hHA,hHC] at heh
 rw [had] at ya
 clear hz8 hx8 hrA hrB hBL hpq hHA hHC hsu xs ys
 go_wp2_with (first
  | (with_reducible refine wpList_load_mid (op := ⟨some 54,_,_,_,_,_⟩) rfl 43 _ rfl X13 0 rfl BL _ HRA'.out Tryz.underlying43 rfl SPL.out ?_)
  | (with_reducible refine wpList_load_row (o := ⟨some 55,_,_,_,_,_⟩) rfl 43 _ rfl w.heap.size rfl 43 RQ (0,0) _ HX8.out Tryz.underlying43 rfl SP1.out ?_)
  | (with_reducible refine wpList_load_mid13 (op := ⟨some 74,_,_,_,_,_⟩) (by kernel_rfl) 28 _ rfl X13 2 rfl HA _ HYS.out Tryz.underlying28 rfl SH2.out ?_)
  | (with_reducible refine wpList_load_mid13 (op := ⟨some 76,_,_,_,_,_⟩) (by kernel_rfl) 28 _ rfl w.heap.size 2 rfl HC _ HXS.out Tryz.underlying28 rfl SH1.out ?_))
 go_ret
 exact ⟨rfl,HB8.out⟩
set_option maxRecDepth 100000 in
set_option maxHeartbeats 3200000 in
theorem reads13_ad0 (h : QL w0 w P D gl n (keyE ++ macE) F b V ws lim false L M) (hr : R13 w R MS G Mb n c F' b' B) (q : PtrV) (nd : NodeV) (hrq : readQ keyE n q V ws false = (nd,0)) (hnb : NB nd ∧ nd.ps.length ≤ 1000000) (a : Nat) (hqa : q.ad = (a : Int)) (ha : a < n) (h0 : q.ad ≠ 0) (hc : checkE q n = 0) (hone : (blkRow (B a)).toArray.all (·.oneCell') = true) (hpq : (B a).1 ≠ q) (had : (B a).1.ad ≠ (a : Int)) (hhs : hashS ((readM V ws a).map yv) = q.su) :
 Calls Tryz.prog 17 #[.pointer (some ⟨P,0,none⟩),.pointer (some ⟨D,0,none⟩),.pointer (some ⟨R,0,none⟩),.int .i64 (n : Int),.agg (ptrRow q).toArray] w fun e w' => e = .returned (.bool true) ∧ Below w.heap.size w w' := by
 have HQ := hid h
 have HRR := hid hr
 have HNB := hid hnb
 have HRD := hid (fun (W : World) (hW : Below w.heap.size w W) => show Calls Tryz.prog 33 #[.pointer (some ⟨P,0,none⟩),.agg (ptrRow q).toArray] W fun e w' => ∃ k v p',e = .returned (.tuple #[.agg #[.bool nd.lf,k,v,p'],.int .i64 0]) ∧ NR w' k v p' nd ∧ Below W.heap.size W w' from by
  have z := ql_read P b F keyE macE q (h.below hW) (h.below hW).pl keyE_length macE_length
  rw [hrq] at z
  exact z)
 have hb1 := (Below.refl w.heap.size w).alloc (Nat.le_refl _) (.cells (ptrRow q).toArray 43)
 have hx1 := heap_alloc_new w (.cells (ptrRow q).toArray 43)
 have sp1 := size_ptrA q
 have hn0 := zero_node0
 have sn2 : nzero.size = (#[.bool nd.lf,.bool true,.bool true,.bool true] : Array Value).size := rfl
 obtain ⟨ZN,hZN⟩ : ∃ z,nzero = z := ⟨_,rfl⟩
 obtain ⟨RQ,hRQ⟩ : ∃ z,(ptrRow q).toArray = z := ⟨_,rfl⟩
 have HRQ := hid hRQ
 have HZN := hid hZN
 rw [hZN] at hn0 sn2
 rw [hRQ] at HRD hb1 hx1 sp1 ⊢
 have SP1 := hid sp1
 have SN2 := hid (fun (k v p : Value) => show ZN.size = (#[.bool nd.lf,k,v,p] : Array Value).size from sn2)
 have HRW := hid hrq
 clear hRQ hZN sp1 sn2 hrq h hr hnb
 generalize hw1 : w.alloc (.cells RQ 43) = w1 at *
 have HB1 := hid hb1
 have HX1 := hid hx1
 clear hb1 hx1
 go_enter Tryz.func17,Tryz.ntmps17
 go_upto_region 1 with fail
 try rw [hw1]
 clear hw1
 go_wp2_with (first
  | (with_reducible refine wpList_load_row (o := ⟨some 18,_,_,_,_,_⟩) rfl 43 _ rfl w.heap.size rfl 43 RQ (0,0) _ HX1.out Tryz.underlying43 rfl SP1.out ?_))
 refine (HRD.out w1 HB1.out).mono ?_
 rintro e w2 ⟨k1,v1,p1,rfl,hn2,hb2⟩
 have HX2 := hid ((hb2.block _ (lt_of_block HX1.out)).trans HX1.out)
 have HB2 := hid (HB1.out.trans (hb2.mono HB1.out.size))
 have HN2 := hid hn2
 have SX1 := hid (size_node nd.lf k1 v1 p1)
 have SX2 := hid (SN2.out k1 v1 p1)
 have SX3 := hid (nr_one hn2 nd.lf)
 clear hn2 hb2 HRD HB1 HX1
 go_upto_region 2 with (first
  | (with_reducible refine wpList_store_row (o := ⟨none,.store _ (.tmp 11) _,_,_,_,_⟩) rfl 38 _ _ rfl w2.heap.size #[.bool nd.lf,k1,v1,p1] rfl rfl 38 ZN (heap_alloc_new w2 _) SX1.out SX2.out SX3.out ?_))
 generalize hWs : World.setRow _ w2.heap.size _ = w3
 have hf := fresh13 w2 ZN #[.bool nd.lf,k1,v1,p1] 38 w3 hWs.symm
 have HY3 := hid hf.1
 have HX3 := hid ((hf.2.block _ (lt_of_block HX2.out)).trans HX2.out)
 have HB3 := hid (HB2.out.trans (hf.2.mono HB2.out.size))
 have HN3 := hid (HN2.out.below hf.2)
 clear hWs hf HX2 HB2 HN2
 generalize w2.heap.size = X11 at *
 have HNU := hid (show Calls Tryz.prog 44 #[.agg RQ] w3 fun e w' => e = .returned (.bool false) ∧ Below w3.heap.size w3 w' from by
  have z := pnull_any q w3
  rw [HRQ.out,show (q.ad == 0) = false by simpa using h0] at z
  exact z)
 go_wp2_with (first
  | (with_reducible refine wpList_load_row (o := ⟨some 31,_,_,_,_,_⟩) rfl 43 _ rfl w.heap.size rfl 43 RQ (0,0) _ HX3.out Tryz.underlying43 rfl SP1.out ?_))
 refine HNU.out.mono ?_
 rintro e w5 ⟨rfl,hb5⟩
 have HB5 := hid (HB3.out.trans (hb5.mono HB3.out.size))
 have HX5 := hid ((hb5.block _ (lt_of_block HX3.out)).trans HX3.out)
 have HY5 := hid ((hb5.block _ (lt_of_block HY3.out)).trans HY3.out)
 have HN5 := hid (HN3.out.below hb5)
 clear HB3 HX3 HY3 HN3
 clear hb5 HNU
 have HCK := hid (show Calls Tryz.prog 45 #[.agg RQ,.int .i64 (n : Int)] w5 fun e w' => e = .returned (.int .i64 0) ∧ Below w5.heap.size w5 w' from by
  have z := pcheck_any q n w5
  rw [HRQ.out] at z
  rw [hc] at z
  exact z)
 go_wp2_with (first
  | (with_reducible refine wpList_load_guarded (o := ⟨some 34,_,_,_,_,_⟩) (by kernel_rfl) 43 _ rfl w.heap.size rfl 43 RQ (0,0) _ HX5.out Tryz.underlying43 rfl SP1.out ?_))
 refine HCK.out.mono ?_
 rintro e w6 ⟨rfl,hb6⟩
 have HB6 := hid (HB5.out.trans (hb6.mono HB5.out.size))
 have HX6 := hid ((hb6.block _ (lt_of_block HX5.out)).trans HX5.out)
 have HY6 := hid ((hb6.block _ (lt_of_block HY5.out)).trans HY5.out)
 have HN6 := hid (HN5.out.below hb6)
 clear HB5 HX5 HY5 HN5
 clear hb6 HCK
 have HDN := hid (ql_down (HQ.out.below HB6.out))
 go_wp2_with fail
 refine HDN.out.mono ?_
 rintro e w7 ⟨rfl,hw⟩
 subst w7
 clear HDN
 go_wp2_with fail
 obtain ⟨BR,hBR⟩ : ∃ z,(blkRow (B a)).toArray = z := ⟨_,rfl⟩
 have HBR := hid hBR
 have hzb := zero_blk
 obtain ⟨ZB,hZB⟩ : ∃ z,(blkRow zeroBlk).toArray = z := ⟨_,rfl⟩
 rw [hZB] at hzb
 have HSB := hid (show (Tryz.prog.info? 67).map (·.size) = some BR.size from by rw [← hBR]; exact size_blk _)
 have HSE := hid (show ZB.size = BR.size from by rw [← hBR,← hZB]; simp [blkRow_length])
 have HSO := hid (show BR.all (·.oneCell') = true from by rw [← hBR]; exact hone)
 have HS := hid (show ∀ W,Below w6.heap.size w6 W → (W.cell? ⟨R,3,none⟩ = some (.map (some Mb)) ∧ W.cell? ⟨w.heap.size,0,none⟩ = some (.int .u32 (a : Int)) ∧ (Instr.lookup 50 (.map (some Mb)) (.int .u32 (a : Int)) false).run Tryz.prog W = .ok (.agg BR) W) from fun W hW => by
  have hB := HB6.out.trans (hW.mono HB6.out.size)
  have hR := HRR.out.below hB
  have hx := (hW.block _ (lt_of_block HX6.out)).trans HX6.out
  rw [← HRQ.out] at hx
  obtain ⟨x0,_,_⟩ := ptr_at hx
  rw [hqa] at x0
  have hl := bm_look hR.mp a (by have := q.a0; omega)
  rw [HBR.out] at hl
  exact ⟨hR.parts.2.2.2,x0,hl⟩)
 clear hBR hZB
 have c2 : w6.cell? ⟨R,3,none⟩ = w6.cell? ⟨R,3,none⟩ := rfl
 clear c2
 go_upto_region 8 with fail
 try simp only [Act.put]
 refine wp_region_noPanic ?_
 have HBD := hid (Below.refl w6.heap.size w6).drew
 refine wp_region_held_drew (S := fun W => W.cell? ⟨R,3,none⟩ = some (.map (some Mb)) ∧ W.cell? ⟨w.heap.size,0,none⟩ = some (.int .u32 (a : Int)) ∧ (Instr.lookup 50 (.map (some Mb)) (.int .u32 (a : Int)) false).run Tryz.prog W = .ok (.agg BR) W) (by kernel_rfl) (HS.out _ HBD.out) (fun hHeld => ?_)
 refine wpAnyH_take (i := 0) (oi := ⟨some 46,_,_,_,_,_⟩) (v := ?_) rfl (by kernel_rfl) (by decide +kernel) (by decide +kernel) (fun _ _ _ h => h) (Or.inl ⟨by rfl, ?_⟩) (by assumption) ?_
 rotate_left 1
 ·(intro w' hSw; go_simp; try with_reducible rfl)
 try simp only [Act.put,List.setIfInBounds_toArray,List.set_cons_zero,List.set_cons_succ]
 refine wpAnyH_take (i := 1) (oi := ⟨some 47,_,_,_,_,_⟩) (v := ?_) rfl (by kernel_rfl) (by decide +kernel) (by decide +kernel) (fun _ _ _ h => h) (Or.inl ⟨by rfl, ?_⟩) (by assumption) ?_
 rotate_left 1
 ·(intro w' hSw; go_simp; try with_reducible rfl)
 try simp only [Act.put,List.setIfInBounds_toArray,List.set_cons_zero,List.set_cons_succ]
 refine wpAnyH_take (i := 2) (oi := ⟨some 48,_,_,_,_,_⟩) (v := ?_) rfl (by kernel_rfl) (by decide +kernel) (by decide +kernel) (fun _ _ _ h => h) (Or.inl ⟨by rfl, ?_⟩) (by assumption) ?_
 rotate_left 1
 ·(intro w' hSw; go_simp; try with_reducible rfl)
 try simp only [Act.put,List.setIfInBounds_toArray,List.set_cons_zero,List.set_cons_succ]
 refine wpAnyH_take (i := 3) (oi := ⟨some 49,_,_,_,_,_⟩) (v := ?_) rfl (by kernel_rfl) (by decide +kernel) (by decide +kernel) (fun _ _ _ h => h) (Or.inl ⟨by rfl, ?_⟩) (by assumption) ?_
 rotate_left 1
 ·(intro w' hSw; have hc := hSw.1; go_simp; try with_reducible rfl)
 try simp only [Act.put,List.setIfInBounds_toArray,List.set_cons_zero,List.set_cons_succ]
 refine wpAnyH_take (i := 4) (oi := ⟨some 50,_,_,_,_,_⟩) (v := ?_) rfl (by kernel_rfl) (by decide +kernel) (by decide +kernel) (fun _ _ _ h => h) (Or.inl ⟨by rfl, ?_⟩) (by assumption) ?_
 rotate_left 1
 ·(intro w' hSw; go_simp; try with_reducible rfl)
 try simp only [Act.put,List.setIfInBounds_toArray,List.set_cons_zero,List.set_cons_succ]
 refine wpAnyH_take (i := 5) (oi := ⟨some 51,_,_,_,_,_⟩) (v := ?_) rfl (by kernel_rfl) (by decide +kernel) (by decide +kernel) (fun _ _ _ h => h) (Or.inl ⟨by rfl, ?_⟩) (by assumption) ?_
 rotate_left 1
 ·(intro w' hSw; have hc := hSw.2.1; go_simp; try with_reducible rfl)
 try simp only [Act.put,List.setIfInBounds_toArray,List.set_cons_zero,List.set_cons_succ]
 refine wpAnyH_take (i := 6) (oi := ⟨some 52,_,_,_,_,_⟩) (v := ?_) rfl (by kernel_rfl) (by decide +kernel) (by decide +kernel) (fun _ _ _ h => h) (Or.inl ⟨by rfl, ?_⟩) (by assumption) ?_
 rotate_left 1
 ·(intro w' hSw; have hl := hSw.2.2; go_simp; try with_reducible rfl)
 try simp only [Act.put,List.setIfInBounds_toArray,List.set_cons_zero,List.set_cons_succ]
 clear hHeld
 refine wpAnyH_ready (rs := [7]) (by decide +kernel) (by simp) ?_
 refine AllReadyH.cons rfl (fun K hK => ?_) AllReadyH.nil
 go_simp
 have hal := HBD.out.alloc HBD.out.size (.cells ZB 67)
 have hxl := heap_alloc_new w6.drew (.cells ZB 67)
 refine hK.out _ _ (HS.out _ hal) (fun hHeld => ?_)
 clear hK K hHeld
 try simp only [Act.put,List.setIfInBounds_toArray,List.set_cons_zero,List.set_cons_succ]
 refine wpAnyH_ready (rs := [8]) (by decide +kernel) (by simp) ?_
 refine AllReadyH.cons rfl (fun K hK => ?_) AllReadyH.nil
 rw [if_pos (by kernel_rfl)]
 refine wp_store_row (o := ⟨none,.store _ (.tmp 13) _,_,_,_,_⟩) 67 _ _ rfl w6.heap.size BR rfl rfl 67 ZB hxl HSB.out HSE.out HSO.out ?_
 have hst := setRow_heap (w6.alloc (.cells ZB 67)).drew w6.heap.size ZB BR 67 (0,0) hxl
 have hb8 : Below w6.heap.size w6 ((w6.alloc (.cells ZB 67)).drew.setRow w6.heap.size BR) := ybelow_row hal (Nat.le_refl w6.heap.size) BR
 refine hK.out _ _ (HS.out _ hb8) (fun hHeld => ?_)
 clear hK K hHeld
 try simp only [Act.put]
 refine wpAnyH_done (by decide +kernel) ?_ _
 refine NoPanic.normal ?_
 generalize hw8 : (w6.alloc (.cells ZB 67)).drew.setRow w6.heap.size BR = w8 at *
 have HZ8 := hid hst
 clear hw8 hal hxl hst HS HBD hzb
 have HB8 := hid (HB6.out.trans (hb8.mono HB6.out.size))
 have HX8 := hid ((hb8.block _ (lt_of_block HX6.out)).trans HX6.out)
 have HY8 := hid ((hb8.block _ (lt_of_block HY6.out)).trans HY6.out)
 have HN8 := hid (HN6.out.below hb8)
 clear HB6 HX6 HY6 HN6
 clear hb8
 generalize w6.heap.size = X13 at *
 have hz8 := HZ8.out
 rw [← HBR.out] at hz8
 obtain ⟨hrA,hrB⟩ := blk_at hz8
 have HRA := hid hrA
 have HRB := hid hrB
 have hx8 := HX8.out
 rw [← HRQ.out] at hx8
 have SPL := hid (size_ptrL (B a).1)
 obtain ⟨BL,hBL⟩ : ∃ z,ptrRow (B a).1 = z := ⟨_,rfl⟩
 have HBL := hid hBL
 rw [hBL] at SPL
 obtain ⟨xa,_,xs⟩ := ptr_at hx8
 rw [hqa] at xa
 obtain ⟨ya,_,ys⟩ := ptr_range hrA
 have HXS := hid xs
 have HYS := hid ys
 have SH1 := hid (size_hashL q)
 have SH2 := hid (size_hashL (B a).1)
 rw [hBL] at hrA
 have HRA' := hid hrA
 obtain ⟨HA,hHA⟩ : ∃ z,(B a).1.su.map (Value.int .u8) = z := ⟨_,rfl⟩
 obtain ⟨HC,hHC⟩ : ∃ z,q.su.map (Value.int .u8) = z := ⟨_,rfl⟩
 have HHC := hid hHC
 rw [hHA] at HYS SH2
 rw [hHC] at HXS SH1
 have heq := fun W => eq_ptr (B a).1 q W
 rw [HRQ.out,hBL,decide_eq_false hpq] at heq
 have hne : ((B a).1.ad == (a : Int)) = false := by simpa using had
 clear hz8 hx8 hrA hrB hBL hpq hHA hHC xs ys
 have HRS := hid (ql_dread a (HQ.out.below HB8.out) ha)
 go_wp2_with (first
  | (with_reducible refine wpList_load_mid (op := ⟨some 54,_,_,_,_,_⟩) rfl 43 _ rfl X13 0 rfl BL _ HRA'.out Tryz.underlying43 rfl SPL.out ?_)
  | (with_reducible refine wpList_load_row (o := ⟨some 55,_,_,_,_,_⟩) rfl 43 _ rfl w.heap.size rfl 43 RQ (0,0) _ HX8.out Tryz.underlying43 rfl SP1.out ?_))
 refine HRS.out.mono ?_
 rintro e w9 ⟨rfl,hs9,hl9,hb9⟩
 have HS9 := hid hs9
 have HL9 := hid hl9
 have HXT := hid (by_range (range_below HXS.out hb9))
 have HB9 := hid (HB8.out.trans (hb9.mono HB8.out.size))
 have HX9 := hid ((hb9.block _ (lt_of_block HX8.out)).trans HX8.out)
 have HY9 := hid ((hb9.block _ (lt_of_block HY8.out)).trans HY8.out)
 have HN9 := hid (HN8.out.below hb9)
 clear HB8 HX8 HY8 HN8
 clear hb9 hs9 hl9 HRS HXS
 generalize w8.heap.size = X14 at *
 have HSU := hid (show ∀ pp : BelowBy w9,Calls Tryz.prog 25 #[.slice (some ⟨X14,0,none⟩) 512 512] pp.now (fun e w' => e = .returned (.agg HC.toArray) ∧ Below pp.now.heap.size pp.now w') from fun pp => by
  have hb := HB9.out.trans (pp.bel.mono HB9.out.size)
  have z := shasum_any ((readM V ws a).map yv) (.slice (some ⟨X14,0,none⟩) 512 512) pp.now (HQ.out.below hb).ktn ((BS.of_arr0 HS9.out HL9.out).kept pp.bel) (room_of _ _ _ (Nat.le_refl _) (by decide)) (by rw [List.length_map,HL9.out]; decide)
  rw [hhs,show u8s q.su = HC.toArray by rw [← HHC.out]; rfl] at z
  exact z)
 have hes := fun W => eq_hash_same q.su q.s0.1 q.s0.2 W
 rw [show u8s q.su = HC.toArray by rw [← HHC.out]; rfl] at hes
 go_upto_region 14 with fail
 refine wp_region_below (by kernel_rfl) (by kernel_rfl) ?_
 repeat (first
  | (with_reducible refine quiet_load_row (o := ⟨some 98,_,_,_,_,_⟩) (by kernel_rfl) 28 _ rfl w.heap.size 2 rfl HC _ HXT.out Tryz.underlying28 rfl SH1.out ?_
     simp only [Act.put,List.setIfInBounds_toArray,List.set_cons_zero,List.set_cons_succ])
  | (go_big_quiet_step (first | (go_at_call 25; exact calls_below (HSU.out _)))))
 refine wpQuiet_nil ?_
 intro _ hw'
 obtain ⟨pp,hw''⟩ := hw'
 subst hw''
 have HB13 := hid (HB9.out.trans (pp.bel.mono HB9.out.size))
 go_wp2_with fail
 go_ret
 exact ⟨rfl,HB13.out⟩
set_option maxRecDepth 100000 in
set_option maxHeartbeats 3200000 in
theorem reads13_su0 (h : QL w0 w P D gl n (keyE ++ macE) F b V ws lim false L M) (hr : R13 w R MS G Mb n c F' b' B) (q : PtrV) (nd : NodeV) (hrq : readQ keyE n q V ws false = (nd,0)) (hnb : NB nd ∧ nd.ps.length ≤ 1000000) (a : Nat) (hqa : q.ad = (a : Int)) (ha : a < n) (h0 : q.ad ≠ 0) (hc : checkE q n = 0) (hone : (blkRow (B a)).toArray.all (·.oneCell') = true) (hpq : (B a).1 ≠ q) (had : (B a).1.ad = (a : Int)) (hsu : ¬ (B a).1.su = q.su) (hhs : hashS ((readM V ws a).map yv) = q.su) :
 Calls Tryz.prog 17 #[.pointer (some ⟨P,0,none⟩),.pointer (some ⟨D,0,none⟩),.pointer (some ⟨R,0,none⟩),.int .i64 (n : Int),.agg (ptrRow q).toArray] w fun e w' => e = .returned (.bool true) ∧ Below w.heap.size w w' := by
 have HQ := hid h
 have HRR := hid hr
 have HNB := hid hnb
 have HRD := hid (fun (W : World) (hW : Below w.heap.size w W) => show Calls Tryz.prog 33 #[.pointer (some ⟨P,0,none⟩),.agg (ptrRow q).toArray] W fun e w' => ∃ k v p',e = .returned (.tuple #[.agg #[.bool nd.lf,k,v,p'],.int .i64 0]) ∧ NR w' k v p' nd ∧ Below W.heap.size W w' from by
  have z := ql_read P b F keyE macE q (h.below hW) (h.below hW).pl keyE_length macE_length
  rw [hrq] at z
  exact z)
 have hb1 := (Below.refl w.heap.size w).alloc (Nat.le_refl _) (.cells (ptrRow q).toArray 43)
 have hx1 := heap_alloc_new w (.cells (ptrRow q).toArray 43)
 have sp1 := size_ptrA q
 have hn0 := zero_node0
 have sn2 : nzero.size = (#[.bool nd.lf,.bool true,.bool true,.bool true] : Array Value).size := rfl
 obtain ⟨ZN,hZN⟩ : ∃ z,nzero = z := ⟨_,rfl⟩
 obtain ⟨RQ,hRQ⟩ : ∃ z,(ptrRow q).toArray = z := ⟨_,rfl⟩
 have HRQ := hid hRQ
 have HZN := hid hZN
 rw [hZN] at hn0 sn2
 rw [hRQ] at HRD hb1 hx1 sp1 ⊢
 have SP1 := hid sp1
 have SN2 := hid (fun (k v p : Value) => show ZN.size = (#[.bool nd.lf,k,v,p] : Array Value).size from sn2)
 have HRW := hid hrq
 clear hRQ hZN sp1 sn2 hrq h hr hnb
 generalize hw1 : w.alloc (.cells RQ 43) = w1 at *
 have HB1 := hid hb1
 have HX1 := hid hx1
 clear hb1 hx1
 go_enter Tryz.func17,Tryz.ntmps17
 go_upto_region 1 with fail
 try rw [hw1]
 clear hw1
 go_wp2_with (first
  | (with_reducible refine wpList_load_row (o := ⟨some 18,_,_,_,_,_⟩) rfl 43 _ rfl w.heap.size rfl 43 RQ (0,0) _ HX1.out Tryz.underlying43 rfl SP1.out ?_))
 refine (HRD.out w1 HB1.out).mono ?_
 rintro e w2 ⟨k1,v1,p1,rfl,hn2,hb2⟩
 have HX2 := hid ((hb2.block _ (lt_of_block HX1.out)).trans HX1.out)
 have HB2 := hid (HB1.out.trans (hb2.mono HB1.out.size))
 have HN2 := hid hn2
 have SX1 := hid (size_node nd.lf k1 v1 p1)
 have SX2 := hid (SN2.out k1 v1 p1)
 have SX3 := hid (nr_one hn2 nd.lf)
 clear hn2 hb2 HRD HB1 HX1
 go_upto_region 2 with (first
  | (with_reducible refine wpList_store_row (o := ⟨none,.store _ (.tmp 11) _,_,_,_,_⟩) rfl 38 _ _ rfl w2.heap.size #[.bool nd.lf,k1,v1,p1] rfl rfl 38 ZN (heap_alloc_new w2 _) SX1.out SX2.out SX3.out ?_))
 generalize hWs : World.setRow _ w2.heap.size _ = w3
 have hf := fresh13 w2 ZN #[.bool nd.lf,k1,v1,p1] 38 w3 hWs.symm
 have HY3 := hid hf.1
 have HX3 := hid ((hf.2.block _ (lt_of_block HX2.out)).trans HX2.out)
 have HB3 := hid (HB2.out.trans (hf.2.mono HB2.out.size))
 have HN3 := hid (HN2.out.below hf.2)
 clear hWs hf HX2 HB2 HN2
 generalize w2.heap.size = X11 at *
 have HNU := hid (show Calls Tryz.prog 44 #[.agg RQ] w3 fun e w' => e = .returned (.bool false) ∧ Below w3.heap.size w3 w' from by
  have z := pnull_any q w3
  rw [HRQ.out,show (q.ad == 0) = false by simpa using h0] at z
  exact z)
 go_wp2_with (first
  | (with_reducible refine wpList_load_row (o := ⟨some 31,_,_,_,_,_⟩) rfl 43 _ rfl w.heap.size rfl 43 RQ (0,0) _ HX3.out Tryz.underlying43 rfl SP1.out ?_))
 refine HNU.out.mono ?_
 rintro e w5 ⟨rfl,hb5⟩
 have HB5 := hid (HB3.out.trans (hb5.mono HB3.out.size))
 have HX5 := hid ((hb5.block _ (lt_of_block HX3.out)).trans HX3.out)
 have HY5 := hid ((hb5.block _ (lt_of_block HY3.out)).trans HY3.out)
 have HN5 := hid (HN3.out.below hb5)
 clear HB3 HX3 HY3 HN3
 clear hb5 HNU
 have HCK := hid (show Calls Tryz.prog 45 #[.agg RQ,.int .i64 (n : Int)] w5 fun e w' => e = .returned (.int .i64 0) ∧ Below w5.heap.size w5 w' from by
  have z := pcheck_any q n w5
  rw [HRQ.out] at z
  rw [hc] at z
  exact z)
 go_wp2_with (first
  | (with_reducible refine wpList_load_guarded (o := ⟨some 34,_,_,_,_,_⟩) (by kernel_rfl) 43 _ rfl w.heap.size rfl 43 RQ (0,0) _ HX5.out Tryz.underlying43 rfl SP1.out ?_))
 refine HCK.out.mono ?_
 rintro e w6 ⟨rfl,hb6⟩
 have HB6 := hid (HB5.out.trans (hb6.mono HB5.out.size))
 have HX6 := hid ((hb6.block _ (lt_of_block HX5.out)).trans HX5.out)
 have HY6 := hid ((hb6.block _ (lt_of_block HY5.out)).trans HY5.out)
 have HN6 := hid (HN5.out.below hb6)
 clear HB5 HX5 HY5 HN5
 clear hb6 HCK
 have HDN := hid (ql_down (HQ.out.below HB6.out))
 go_wp2_with fail
 refine HDN.out.mono ?_
 rintro e w7 ⟨rfl,hw⟩
 subst w7
 clear HDN
 go_wp2_with fail
 obtain ⟨BR,hBR⟩ : ∃ z,(blkRow (B a)).toArray = z := ⟨_,rfl⟩
 have HBR := hid hBR
 have hzb := zero_blk
 obtain ⟨ZB,hZB⟩ : ∃ z,(blkRow zeroBlk).toArray = z := ⟨_,rfl⟩
 rw [hZB] at hzb
 have HSB := hid (show (Tryz.prog.info? 67).map (·.size) = some BR.size from by rw [← hBR]; exact size_blk _)
 have HSE := hid (show ZB.size = BR.size from by rw [← hBR,← hZB]; simp [blkRow_length])
 have HSO := hid (show BR.all (·.oneCell') = true from by rw [← hBR]; exact hone)
 have HS := hid (show ∀ W,Below w6.heap.size w6 W → (W.cell? ⟨R,3,none⟩ = some (.map (some Mb)) ∧ W.cell? ⟨w.heap.size,0,none⟩ = some (.int .u32 (a : Int)) ∧ (Instr.lookup 50 (.map (some Mb)) (.int .u32 (a : Int)) false).run Tryz.prog W = .ok (.agg BR) W) from fun W hW => by
  have hB := HB6.out.trans (hW.mono HB6.out.size)
  have hR := HRR.out.below hB
  have hx := (hW.block _ (lt_of_block HX6.out)).trans HX6.out
  rw [← HRQ.out] at hx
  obtain ⟨x0,_,_⟩ := ptr_at hx
  rw [hqa] at x0
  have hl := bm_look hR.mp a (by have := q.a0; omega)
  rw [HBR.out] at hl
  exact ⟨hR.parts.2.2.2,x0,hl⟩)
 clear hBR hZB
 have c2 : w6.cell? ⟨R,3,none⟩ = w6.cell? ⟨R,3,none⟩ := rfl
 clear c2
 go_upto_region 8 with fail
 try simp only [Act.put]
 refine wp_region_noPanic ?_
 have HBD := hid (Below.refl w6.heap.size w6).drew
 refine wp_region_held_drew (S := fun W => W.cell? ⟨R,3,none⟩ = some (.map (some Mb)) ∧ W.cell? ⟨w.heap.size,0,none⟩ = some (.int .u32 (a : Int)) ∧ (Instr.lookup 50 (.map (some Mb)) (.int .u32 (a : Int)) false).run Tryz.prog W = .ok (.agg BR) W) (by kernel_rfl) (HS.out _ HBD.out) (fun hHeld => ?_)
 refine wpAnyH_take (i := 0) (oi := ⟨some 46,_,_,_,_,_⟩) (v := ?_) rfl (by kernel_rfl) (by decide +kernel) (by decide +kernel) (fun _ _ _ h => h) (Or.inl ⟨by rfl, ?_⟩) (by assumption) ?_
 rotate_left 1
 ·(intro w' hSw; go_simp; try with_reducible rfl)
 try simp only [Act.put,List.setIfInBounds_toArray,List.set_cons_zero,List.set_cons_succ]
 refine wpAnyH_take (i := 1) (oi := ⟨some 47,_,_,_,_,_⟩) (v := ?_) rfl (by kernel_rfl) (by decide +kernel) (by decide +kernel) (fun _ _ _ h => h) (Or.inl ⟨by rfl, ?_⟩) (by assumption) ?_
 rotate_left 1
 ·(intro w' hSw; go_simp; try with_reducible rfl)
 try simp only [Act.put,List.setIfInBounds_toArray,List.set_cons_zero,List.set_cons_succ]
 refine wpAnyH_take (i := 2) (oi := ⟨some 48,_,_,_,_,_⟩) (v := ?_) rfl (by kernel_rfl) (by decide +kernel) (by decide +kernel) (fun _ _ _ h => h) (Or.inl ⟨by rfl, ?_⟩) (by assumption) ?_
 rotate_left 1
 ·(intro w' hSw; go_simp; try with_reducible rfl)
 try simp only [Act.put,List.setIfInBounds_toArray,List.set_cons_zero,List.set_cons_succ]
 refine wpAnyH_take (i := 3) (oi := ⟨some 49,_,_,_,_,_⟩) (v := ?_) rfl (by kernel_rfl) (by decide +kernel) (by decide +kernel) (fun _ _ _ h => h) (Or.inl ⟨by rfl, ?_⟩) (by assumption) ?_
 rotate_left 1
 ·(intro w' hSw; have hc := hSw.1; go_simp; try with_reducible rfl)
 try simp only [Act.put,List.setIfInBounds_toArray,List.set_cons_zero,List.set_cons_succ]
 refine wpAnyH_take (i := 4) (oi := ⟨some 50,_,_,_,_,_⟩) (v := ?_) rfl (by kernel_rfl) (by decide +kernel) (by decide +kernel) (fun _ _ _ h => h) (Or.inl ⟨by rfl, ?_⟩) (by assumption) ?_
 rotate_left 1
 ·(intro w' hSw; go_simp; try with_reducible rfl)
 try simp only [Act.put,List.setIfInBounds_toArray,List.set_cons_zero,List.set_cons_succ]
 refine wpAnyH_take (i := 5) (oi := ⟨some 51,_,_,_,_,_⟩) (v := ?_) rfl (by kernel_rfl) (by decide +kernel) (by decide +kernel) (fun _ _ _ h => h) (Or.inl ⟨by rfl, ?_⟩) (by assumption) ?_
 rotate_left 1
 ·(intro w' hSw; have hc := hSw.2.1; go_simp; try with_reducible rfl)
 try simp only [Act.put,List.setIfInBounds_toArray,List.set_cons_zero,List.set_cons_succ]
 refine wpAnyH_take (i := 6) (oi := ⟨some 52,_,_,_,_,_⟩) (v := ?_) rfl (by kernel_rfl) (by decide +kernel) (by decide +kernel) (fun _ _ _ h => h) (Or.inl ⟨by rfl, ?_⟩) (by assumption) ?_
 rotate_left 1
 ·(intro w' hSw; have hl := hSw.2.2; go_simp; try with_reducible rfl)
 try simp only [Act.put,List.setIfInBounds_toArray,List.set_cons_zero,List.set_cons_succ]
 clear hHeld
 refine wpAnyH_ready (rs := [7]) (by decide +kernel) (by simp) ?_
 refine AllReadyH.cons rfl (fun K hK => ?_) AllReadyH.nil
 go_simp
 have hal := HBD.out.alloc HBD.out.size (.cells ZB 67)
 have hxl := heap_alloc_new w6.drew (.cells ZB 67)
 refine hK.out _ _ (HS.out _ hal) (fun hHeld => ?_)
 clear hK K hHeld
 try simp only [Act.put,List.setIfInBounds_toArray,List.set_cons_zero,List.set_cons_succ]
 refine wpAnyH_ready (rs := [8]) (by decide +kernel) (by simp) ?_
 refine AllReadyH.cons rfl (fun K hK => ?_) AllReadyH.nil
 rw [if_pos (by kernel_rfl)]
 refine wp_store_row (o := ⟨none,.store _ (.tmp 13) _,_,_,_,_⟩) 67 _ _ rfl w6.heap.size BR rfl rfl 67 ZB hxl HSB.out HSE.out HSO.out ?_
 have hst := setRow_heap (w6.alloc (.cells ZB 67)).drew w6.heap.size ZB BR 67 (0,0) hxl
 have hb8 : Below w6.heap.size w6 ((w6.alloc (.cells ZB 67)).drew.setRow w6.heap.size BR) := ybelow_row hal (Nat.le_refl w6.heap.size) BR
 refine hK.out _ _ (HS.out _ hb8) (fun hHeld => ?_)
 clear hK K hHeld
 try simp only [Act.put]
 refine wpAnyH_done (by decide +kernel) ?_ _
 refine NoPanic.normal ?_
 generalize hw8 : (w6.alloc (.cells ZB 67)).drew.setRow w6.heap.size BR = w8 at *
 have HZ8 := hid hst
 clear hw8 hal hxl hst HS HBD hzb
 have HB8 := hid (HB6.out.trans (hb8.mono HB6.out.size))
 have HX8 := hid ((hb8.block _ (lt_of_block HX6.out)).trans HX6.out)
 have HY8 := hid ((hb8.block _ (lt_of_block HY6.out)).trans HY6.out)
 have HN8 := hid (HN6.out.below hb8)
 clear HB6 HX6 HY6 HN6
 clear hb8
 generalize w6.heap.size = X13 at *
 have hz8 := HZ8.out
 rw [← HBR.out] at hz8
 obtain ⟨hrA,hrB⟩ := blk_at hz8
 have HRA := hid hrA
 have HRB := hid hrB
 have hx8 := HX8.out
 rw [← HRQ.out] at hx8
 have SPL := hid (size_ptrL (B a).1)
 obtain ⟨BL,hBL⟩ : ∃ z,ptrRow (B a).1 = z := ⟨_,rfl⟩
 have HBL := hid hBL
 rw [hBL] at SPL
 obtain ⟨xa,_,xs⟩ := ptr_at hx8
 rw [hqa] at xa
 obtain ⟨ya,_,ys⟩ := ptr_range hrA
 have HXS := hid xs
 have HYS := hid ys
 have SH1 := hid (size_hashL q)
 have SH2 := hid (size_hashL (B a).1)
 rw [hBL] at hrA
 have HRA' := hid hrA
 obtain ⟨HA,hHA⟩ : ∃ z,(B a).1.su.map (Value.int .u8) = z := ⟨_,rfl⟩
 obtain ⟨HC,hHC⟩ : ∃ z,q.su.map (Value.int .u8) = z := ⟨_,rfl⟩
 have HHC := hid hHC
 rw [hHA] at HYS SH2
 rw [hHC] at HXS SH1
 have heq := fun W => eq_ptr (B a).1 q W
 rw [HRQ.out,hBL,decide_eq_false hpq] at heq
 have heh := fun W => eq_hash (B a).1.su q.su (B a).1.s0.1 q.s0.1 (B a).1.s0.2 q.s0.2 W
 unfold u8s at heh
 rw [decide_eq_false hsu] at heh
 rw [hHA,hHC] at heh
 rw [had] at ya
 clear hz8 hx8 hrA hrB hBL hpq hHA hHC xs ys hsu
 have HRS := hid (ql_dread a (HQ.out.below HB8.out) ha)
 go_wp2_with (first
  | (with_reducible refine wpList_load_mid (op := ⟨some 54,_,_,_,_,_⟩) rfl 43 _ rfl X13 0 rfl BL _ HRA'.out Tryz.underlying43 rfl SPL.out ?_)
  | (with_reducible refine wpList_load_row (o := ⟨some 55,_,_,_,_,_⟩) rfl 43 _ rfl w.heap.size rfl 43 RQ (0,0) _ HX8.out Tryz.underlying43 rfl SP1.out ?_)
  | (with_reducible refine wpList_load_mid13 (op := ⟨some 74,_,_,_,_,_⟩) (by kernel_rfl) 28 _ rfl X13 2 rfl HA _ HYS.out Tryz.underlying28 rfl SH2.out ?_)
  | (with_reducible refine wpList_load_mid13 (op := ⟨some 76,_,_,_,_,_⟩) (by kernel_rfl) 28 _ rfl w.heap.size 2 rfl HC _ HXS.out Tryz.underlying28 rfl SH1.out ?_))
 refine HRS.out.mono ?_
 rintro e w9 ⟨rfl,hs9,hl9,hb9⟩
 have HS9 := hid hs9
 have HL9 := hid hl9
 have HXT := hid (by_range (range_below HXS.out hb9))
 have HB9 := hid (HB8.out.trans (hb9.mono HB8.out.size))
 have HX9 := hid ((hb9.block _ (lt_of_block HX8.out)).trans HX8.out)
 have HY9 := hid ((hb9.block _ (lt_of_block HY8.out)).trans HY8.out)
 have HN9 := hid (HN8.out.below hb9)
 clear HB8 HX8 HY8 HN8
 clear hb9 hs9 hl9 HRS HXS
 generalize w8.heap.size = X14 at *
 have HSU := hid (show ∀ pp : BelowBy w9,Calls Tryz.prog 25 #[.slice (some ⟨X14,0,none⟩) 512 512] pp.now (fun e w' => e = .returned (.agg HC.toArray) ∧ Below pp.now.heap.size pp.now w') from fun pp => by
  have hb := HB9.out.trans (pp.bel.mono HB9.out.size)
  have z := shasum_any ((readM V ws a).map yv) (.slice (some ⟨X14,0,none⟩) 512 512) pp.now (HQ.out.below hb).ktn ((BS.of_arr0 HS9.out HL9.out).kept pp.bel) (room_of _ _ _ (Nat.le_refl _) (by decide)) (by rw [List.length_map,HL9.out]; decide)
  rw [hhs,show u8s q.su = HC.toArray by rw [← HHC.out]; rfl] at z
  exact z)
 have hes := fun W => eq_hash_same q.su q.s0.1 q.s0.2 W
 rw [show u8s q.su = HC.toArray by rw [← HHC.out]; rfl] at hes
 go_upto_region 14 with fail
 refine wp_region_below (by kernel_rfl) (by kernel_rfl) ?_
 repeat (first
  | (with_reducible refine quiet_load_row (o := ⟨some 98,_,_,_,_,_⟩) (by kernel_rfl) 28 _ rfl w.heap.size 2 rfl HC _ HXT.out Tryz.underlying28 rfl SH1.out ?_
     simp only [Act.put,List.setIfInBounds_toArray,List.set_cons_zero,List.set_cons_succ])
  | (go_big_quiet_step (first | (go_at_call 25; exact calls_below (HSU.out _)))))
 refine wpQuiet_nil ?_
 intro _ hw'
 obtain ⟨pp,hw''⟩ := hw'
 subst hw''
 have HB13 := hid (HB9.out.trans (pp.bel.mono HB9.out.size))
 go_wp2_with fail
 go_ret
 exact ⟨rfl,HB13.out⟩
set_option maxRecDepth 100000 in
set_option maxHeartbeats 3200000 in
theorem reads13_ad4 (h : QL w0 w P D gl n (keyE ++ macE) F b V ws lim false L M) (hr : R13 w R MS G Mb n c F' b' B) (q : PtrV) (nd : NodeV) (hrq : readQ keyE n q V ws false = (nd,4)) (hnb : NB nd ∧ nd.ps.length ≤ 1000000) (hnd : nd = zeroNode) (a : Nat) (hqa : q.ad = (a : Int)) (ha : a < n) (h0 : q.ad ≠ 0) (hc : checkE q n = 0) (hone : (blkRow (B a)).toArray.all (·.oneCell') = true) (hpq : (B a).1 ≠ q) (had : (B a).1.ad ≠ (a : Int)) (hhs : hashS ((readM V ws a).map yv) = q.su) :
 Calls Tryz.prog 17 #[.pointer (some ⟨P,0,none⟩),.pointer (some ⟨D,0,none⟩),.pointer (some ⟨R,0,none⟩),.int .i64 (n : Int),.agg (ptrRow q).toArray] w fun e w' => e = .returned (.bool true) ∧ Below w.heap.size w w' := by
 have HND := hid hnd
 clear hnd
 have HQ := hid h
 have HRR := hid hr
 have HNB := hid hnb
 have HRD := hid (fun (W : World) (hW : Below w.heap.size w W) => show Calls Tryz.prog 33 #[.pointer (some ⟨P,0,none⟩),.agg (ptrRow q).toArray] W fun e w' => ∃ k v p',e = .returned (.tuple #[.agg #[.bool nd.lf,k,v,p'],.int .i64 4]) ∧ NR w' k v p' nd ∧ Below W.heap.size W w' from by
  have z := ql_read P b F keyE macE q (h.below hW) (h.below hW).pl keyE_length macE_length
  rw [hrq] at z
  exact z)
 have hb1 := (Below.refl w.heap.size w).alloc (Nat.le_refl _) (.cells (ptrRow q).toArray 43)
 have hx1 := heap_alloc_new w (.cells (ptrRow q).toArray 43)
 have sp1 := size_ptrA q
 have hn0 := zero_node0
 have sn2 : nzero.size = (#[.bool nd.lf,.bool true,.bool true,.bool true] : Array Value).size := rfl
 obtain ⟨ZN,hZN⟩ : ∃ z,nzero = z := ⟨_,rfl⟩
 obtain ⟨RQ,hRQ⟩ : ∃ z,(ptrRow q).toArray = z := ⟨_,rfl⟩
 have HRQ := hid hRQ
 have HZN := hid hZN
 rw [hZN] at hn0 sn2
 rw [hRQ] at HRD hb1 hx1 sp1 ⊢
 have SP1 := hid sp1
 have SN2 := hid (fun (k v p : Value) => show ZN.size = (#[.bool nd.lf,k,v,p] : Array Value).size from sn2)
 have HRW := hid hrq
 clear hRQ hZN sp1 sn2 hrq h hr hnb
 generalize hw1 : w.alloc (.cells RQ 43) = w1 at *
 have HB1 := hid hb1
 have HX1 := hid hx1
 clear hb1 hx1
 go_enter Tryz.func17,Tryz.ntmps17
 go_upto_region 1 with fail
 try rw [hw1]
 clear hw1
 go_wp2_with (first
  | (with_reducible refine wpList_load_row (o := ⟨some 18,_,_,_,_,_⟩) rfl 43 _ rfl w.heap.size rfl 43 RQ (0,0) _ HX1.out Tryz.underlying43 rfl SP1.out ?_))
 refine (HRD.out w1 HB1.out).mono ?_
 rintro e w2 ⟨k1,v1,p1,rfl,hn2,hb2⟩
 have HX2 := hid ((hb2.block _ (lt_of_block HX1.out)).trans HX1.out)
 have HB2 := hid (HB1.out.trans (hb2.mono HB1.out.size))
 have HN2 := hid hn2
 have SX1 := hid (size_node nd.lf k1 v1 p1)
 have SX2 := hid (SN2.out k1 v1 p1)
 have SX3 := hid (nr_one hn2 nd.lf)
 clear hn2 hb2 HRD HB1 HX1
 go_upto_region 2 with (first
  | (with_reducible refine wpList_store_row (o := ⟨none,.store _ (.tmp 11) _,_,_,_,_⟩) rfl 38 _ _ rfl w2.heap.size #[.bool nd.lf,k1,v1,p1] rfl rfl 38 ZN (heap_alloc_new w2 _) SX1.out SX2.out SX3.out ?_))
 generalize hWs : World.setRow _ w2.heap.size _ = w3
 have hf := fresh13 w2 ZN #[.bool nd.lf,k1,v1,p1] 38 w3 hWs.symm
 have HY3 := hid hf.1
 have HX3 := hid ((hf.2.block _ (lt_of_block HX2.out)).trans HX2.out)
 have HB3 := hid (HB2.out.trans (hf.2.mono HB2.out.size))
 have HN3 := hid (HN2.out.below hf.2)
 clear hWs hf HX2 HB2 HN2
 generalize w2.heap.size = X11 at *
 have HSA := hid (show Calls Tryz.prog 34 #[.agg #[.bool nd.lf,k1,v1,p1],.agg ZN] w3 fun e w' => e = .returned (.bool true) ∧ Below w3.heap.size w3 w' from by
  have z := nsame_any k1 v1 p1 (.slice none 0 0) (.slice none 0 0) (.slice none 0 0) nd zeroNode w3 HN3.out (nr_zero _) HNB.out.1 nb_zero HNB.out.2 (by decide)
  rw [HND.out,sameN_refl] at z
  rw [← HZN.out,HND.out]
  exact z)
 go_wp2_with (first
  | (with_reducible refine wpList_load_guarded (o := ⟨some 25,_,_,_,_,_⟩) (by kernel_rfl) 38 _ rfl X11 rfl 38 #[.bool nd.lf,k1,v1,p1] (0,0) _ HY3.out Tryz.underlying38 rfl SX1.out ?_))
 refine HSA.out.mono ?_
 rintro e w4 ⟨rfl,hb4⟩
 have HB4 := hid (HB3.out.trans (hb4.mono HB3.out.size))
 have HX4 := hid ((hb4.block _ (lt_of_block HX3.out)).trans HX3.out)
 have HY4 := hid ((hb4.block _ (lt_of_block HY3.out)).trans HY3.out)
 have HN4 := hid (HN3.out.below hb4)
 clear HB3 HX3 HY3 HN3
 clear hb4 HSA
 have HNU := hid (show Calls Tryz.prog 44 #[.agg RQ] w4 fun e w' => e = .returned (.bool false) ∧ Below w4.heap.size w4 w' from by
  have z := pnull_any q w4
  rw [HRQ.out,show (q.ad == 0) = false by simpa using h0] at z
  exact z)
 go_wp2_with (first
  | (with_reducible refine wpList_load_row (o := ⟨some 31,_,_,_,_,_⟩) rfl 43 _ rfl w.heap.size rfl 43 RQ (0,0) _ HX4.out Tryz.underlying43 rfl SP1.out ?_))
 refine HNU.out.mono ?_
 rintro e w5 ⟨rfl,hb5⟩
 have HB5 := hid (HB4.out.trans (hb5.mono HB4.out.size))
 have HX5 := hid ((hb5.block _ (lt_of_block HX4.out)).trans HX4.out)
 have HY5 := hid ((hb5.block _ (lt_of_block HY4.out)).trans HY4.out)
 have HN5 := hid (HN4.out.below hb5)
 clear HB4 HX4 HY4 HN4
 clear hb5 HNU
 have HCK := hid (show Calls Tryz.prog 45 #[.agg RQ,.int .i64 (n : Int)] w5 fun e w' => e = .returned (.int .i64 0) ∧ Below w5.heap.size w5 w' from by
  have z := pcheck_any q n w5
  rw [HRQ.out] at z
  rw [hc] at z
  exact z)
 go_wp2_with (first
  | (with_reducible refine wpList_load_guarded (o := ⟨some 34,_,_,_,_,_⟩) (by kernel_rfl) 43 _ rfl w.heap.size rfl 43 RQ (0,0) _ HX5.out Tryz.underlying43 rfl SP1.out ?_))
 refine HCK.out.mono ?_
 rintro e w6 ⟨rfl,hb6⟩
 have HB6 := hid (HB5.out.trans (hb6.mono HB5.out.size))
 have HX6 := hid ((hb6.block _ (lt_of_block HX5.out)).trans HX5.out)
 have HY6 := hid ((hb6.block _ (lt_of_block HY5.out)).trans HY5.out)
 have HN6 := hid (HN5.out.below hb6)
 clear HB5 HX5 HY5 HN5
 clear hb6 HCK
 have HDN := hid (ql_down (HQ.out.below HB6.out))
 go_wp2_with fail
 refine HDN.out.mono ?_
 rintro e w7 ⟨rfl,hw⟩
 subst w7
 clear HDN
 go_wp2_with fail
 obtain ⟨BR,hBR⟩ : ∃ z,(blkRow (B a)).toArray = z := ⟨_,rfl⟩
 have HBR := hid hBR
 have hzb := zero_blk
 obtain ⟨ZB,hZB⟩ : ∃ z,(blkRow zeroBlk).toArray = z := ⟨_,rfl⟩
 rw [hZB] at hzb
 have HSB := hid (show (Tryz.prog.info? 67).map (·.size) = some BR.size from by rw [← hBR]; exact size_blk _)
 have HSE := hid (show ZB.size = BR.size from by rw [← hBR,← hZB]; simp [blkRow_length])
 have HSO := hid (show BR.all (·.oneCell') = true from by rw [← hBR]; exact hone)
 have HS := hid (show ∀ W,Below w6.heap.size w6 W → (W.cell? ⟨R,3,none⟩ = some (.map (some Mb)) ∧ W.cell? ⟨w.heap.size,0,none⟩ = some (.int .u32 (a : Int)) ∧ (Instr.lookup 50 (.map (some Mb)) (.int .u32 (a : Int)) false).run Tryz.prog W = .ok (.agg BR) W) from fun W hW => by
  have hB := HB6.out.trans (hW.mono HB6.out.size)
  have hR := HRR.out.below hB
  have hx := (hW.block _ (lt_of_block HX6.out)).trans HX6.out
  rw [← HRQ.out] at hx
  obtain ⟨x0,_,_⟩ := ptr_at hx
  rw [hqa] at x0
  have hl := bm_look hR.mp a (by have := q.a0; omega)
  rw [HBR.out] at hl
  exact ⟨hR.parts.2.2.2,x0,hl⟩)
 clear hBR hZB
 have c2 : w6.cell? ⟨R,3,none⟩ = w6.cell? ⟨R,3,none⟩ := rfl
 clear c2
 go_upto_region 8 with fail
 try simp only [Act.put]
 refine wp_region_noPanic ?_
 have HBD := hid (Below.refl w6.heap.size w6).drew
 refine wp_region_held_drew (S := fun W => W.cell? ⟨R,3,none⟩ = some (.map (some Mb)) ∧ W.cell? ⟨w.heap.size,0,none⟩ = some (.int .u32 (a : Int)) ∧ (Instr.lookup 50 (.map (some Mb)) (.int .u32 (a : Int)) false).run Tryz.prog W = .ok (.agg BR) W) (by kernel_rfl) (HS.out _ HBD.out) (fun hHeld => ?_)
 refine wpAnyH_take (i := 0) (oi := ⟨some 46,_,_,_,_,_⟩) (v := ?_) rfl (by kernel_rfl) (by decide +kernel) (by decide +kernel) (fun _ _ _ h => h) (Or.inl ⟨by rfl, ?_⟩) (by assumption) ?_
 rotate_left 1
 ·(intro w' hSw; go_simp; try with_reducible rfl)
 try simp only [Act.put,List.setIfInBounds_toArray,List.set_cons_zero,List.set_cons_succ]
 refine wpAnyH_take (i := 1) (oi := ⟨some 47,_,_,_,_,_⟩) (v := ?_) rfl (by kernel_rfl) (by decide +kernel) (by decide +kernel) (fun _ _ _ h => h) (Or.inl ⟨by rfl, ?_⟩) (by assumption) ?_
 rotate_left 1
 ·(intro w' hSw; go_simp; try with_reducible rfl)
 try simp only [Act.put,List.setIfInBounds_toArray,List.set_cons_zero,List.set_cons_succ]
 refine wpAnyH_take (i := 2) (oi := ⟨some 48,_,_,_,_,_⟩) (v := ?_) rfl (by kernel_rfl) (by decide +kernel) (by decide +kernel) (fun _ _ _ h => h) (Or.inl ⟨by rfl, ?_⟩) (by assumption) ?_
 rotate_left 1
 ·(intro w' hSw; go_simp; try with_reducible rfl)
 try simp only [Act.put,List.setIfInBounds_toArray,List.set_cons_zero,List.set_cons_succ]
 refine wpAnyH_take (i := 3) (oi := ⟨some 49,_,_,_,_,_⟩) (v := ?_) rfl (by kernel_rfl) (by decide +kernel) (by decide +kernel) (fun _ _ _ h => h) (Or.inl ⟨by rfl, ?_⟩) (by assumption) ?_
 rotate_left 1
 ·(intro w' hSw; have hc := hSw.1; go_simp; try with_reducible rfl)
 try simp only [Act.put,List.setIfInBounds_toArray,List.set_cons_zero,List.set_cons_succ]
 refine wpAnyH_take (i := 4) (oi := ⟨some 50,_,_,_,_,_⟩) (v := ?_) rfl (by kernel_rfl) (by decide +kernel) (by decide +kernel) (fun _ _ _ h => h) (Or.inl ⟨by rfl, ?_⟩) (by assumption) ?_
 rotate_left 1
 ·(intro w' hSw; go_simp; try with_reducible rfl)
 try simp only [Act.put,List.setIfInBounds_toArray,List.set_cons_zero,List.set_cons_succ]
 refine wpAnyH_take (i := 5) (oi := ⟨some 51,_,_,_,_,_⟩) (v := ?_) rfl (by kernel_rfl) (by decide +kernel) (by decide +kernel) (fun _ _ _ h => h) (Or.inl ⟨by rfl, ?_⟩) (by assumption) ?_
 rotate_left 1
 ·(intro w' hSw; have hc := hSw.2.1; go_simp; try with_reducible rfl)
 try simp only [Act.put,List.setIfInBounds_toArray,List.set_cons_zero,List.set_cons_succ]
 refine wpAnyH_take (i := 6) (oi := ⟨some 52,_,_,_,_,_⟩) (v := ?_) rfl (by kernel_rfl) (by decide +kernel) (by decide +kernel) (fun _ _ _ h => h) (Or.inl ⟨by rfl, ?_⟩) (by assumption) ?_
 rotate_left 1
 ·(intro w' hSw; have hl := hSw.2.2; go_simp; try with_reducible rfl)
 try simp only [Act.put,List.setIfInBounds_toArray,List.set_cons_zero,List.set_cons_succ]
 clear hHeld
 refine wpAnyH_ready (rs := [7]) (by decide +kernel) (by simp) ?_
 refine AllReadyH.cons rfl (fun K hK => ?_) AllReadyH.nil
 go_simp
 have hal := HBD.out.alloc HBD.out.size (.cells ZB 67)
 have hxl := heap_alloc_new w6.drew (.cells ZB 67)
 refine hK.out _ _ (HS.out _ hal) (fun hHeld => ?_)
 clear hK K hHeld
 try simp only [Act.put,List.setIfInBounds_toArray,List.set_cons_zero,List.set_cons_succ]
 refine wpAnyH_ready (rs := [8]) (by decide +kernel) (by simp) ?_
 refine AllReadyH.cons rfl (fun K hK => ?_) AllReadyH.nil
 rw [if_pos (by kernel_rfl)]
 refine wp_store_row (o := ⟨none,.store _ (.tmp 13) _,_,_,_,_⟩) 67 _ _ rfl w6.heap.size BR rfl rfl 67 ZB hxl HSB.out HSE.out HSO.out ?_
 have hst := setRow_heap (w6.alloc (.cells ZB 67)).drew w6.heap.size ZB BR 67 (0,0) hxl
 have hb8 : Below w6.heap.size w6 ((w6.alloc (.cells ZB 67)).drew.setRow w6.heap.size BR) := ybelow_row hal (Nat.le_refl w6.heap.size) BR
 refine hK.out _ _ (HS.out _ hb8) (fun hHeld => ?_)
 clear hK K hHeld
 try simp only [Act.put]
 refine wpAnyH_done (by decide +kernel) ?_ _
 refine NoPanic.normal ?_
 generalize hw8 : (w6.alloc (.cells ZB 67)).drew.setRow w6.heap.size BR = w8 at *
 have HZ8 := hid hst
 clear hw8 hal hxl hst HS HBD hzb
 have HB8 := hid (HB6.out.trans (hb8.mono HB6.out.size))
 have HX8 := hid ((hb8.block _ (lt_of_block HX6.out)).trans HX6.out)
 have HY8 := hid ((hb8.block _ (lt_of_block HY6.out)).trans HY6.out)
 have HN8 := hid (HN6.out.below hb8)
 clear HB6 HX6 HY6 HN6
 clear hb8
 generalize w6.heap.size = X13 at *
 have hz8 := HZ8.out
 rw [← HBR.out] at hz8
 obtain ⟨hrA,hrB⟩ := blk_at hz8
 have HRA := hid hrA
 have HRB := hid hrB
 have hx8 := HX8.out
 rw [← HRQ.out] at hx8
 have SPL := hid (size_ptrL (B a).1)
 obtain ⟨BL,hBL⟩ : ∃ z,ptrRow (B a).1 = z := ⟨_,rfl⟩
 have HBL := hid hBL
 rw [hBL] at SPL
 obtain ⟨xa,_,xs⟩ := ptr_at hx8
 rw [hqa] at xa
 obtain ⟨ya,_,ys⟩ := ptr_range hrA
 have HXS := hid xs
 have HYS := hid ys
 have SH1 := hid (size_hashL q)
 have SH2 := hid (size_hashL (B a).1)
 rw [hBL] at hrA
 have HRA' := hid hrA
 obtain ⟨HA,hHA⟩ : ∃ z,(B a).1.su.map (Value.int .u8) = z := ⟨_,rfl⟩
 obtain ⟨HC,hHC⟩ : ∃ z,q.su.map (Value.int .u8) = z := ⟨_,rfl⟩
 have HHC := hid hHC
 rw [hHA] at HYS SH2
 rw [hHC] at HXS SH1
 have heq := fun W => eq_ptr (B a).1 q W
 rw [HRQ.out,hBL,decide_eq_false hpq] at heq
 have hne : ((B a).1.ad == (a : Int)) = false := by simpa using had
 clear hz8 hx8 hrA hrB hBL hpq hHA hHC xs ys
 have HRS := hid (ql_dread a (HQ.out.below HB8.out) ha)
 go_wp2_with (first
  | (with_reducible refine wpList_load_mid (op := ⟨some 54,_,_,_,_,_⟩) rfl 43 _ rfl X13 0 rfl BL _ HRA'.out Tryz.underlying43 rfl SPL.out ?_)
  | (with_reducible refine wpList_load_row (o := ⟨some 55,_,_,_,_,_⟩) rfl 43 _ rfl w.heap.size rfl 43 RQ (0,0) _ HX8.out Tryz.underlying43 rfl SP1.out ?_))
 refine HRS.out.mono ?_
 rintro e w9 ⟨rfl,hs9,hl9,hb9⟩
 have HS9 := hid hs9
 have HL9 := hid hl9
 have HXT := hid (by_range (range_below HXS.out hb9))
 have HB9 := hid (HB8.out.trans (hb9.mono HB8.out.size))
 have HX9 := hid ((hb9.block _ (lt_of_block HX8.out)).trans HX8.out)
 have HY9 := hid ((hb9.block _ (lt_of_block HY8.out)).trans HY8.out)
 have HN9 := hid (HN8.out.below hb9)
 clear HB8 HX8 HY8 HN8
 clear hb9 hs9 hl9 HRS HXS
 generalize w8.heap.size = X14 at *
 have HSU := hid (show ∀ pp : BelowBy w9,Calls Tryz.prog 25 #[.slice (some ⟨X14,0,none⟩) 512 512] pp.now (fun e w' => e = .returned (.agg HC.toArray) ∧ Below pp.now.heap.size pp.now w') from fun pp => by
  have hb := HB9.out.trans (pp.bel.mono HB9.out.size)
  have z := shasum_any ((readM V ws a).map yv) (.slice (some ⟨X14,0,none⟩) 512 512) pp.now (HQ.out.below hb).ktn ((BS.of_arr0 HS9.out HL9.out).kept pp.bel) (room_of _ _ _ (Nat.le_refl _) (by decide)) (by rw [List.length_map,HL9.out]; decide)
  rw [hhs,show u8s q.su = HC.toArray by rw [← HHC.out]; rfl] at z
  exact z)
 have hes := fun W => eq_hash_same q.su q.s0.1 q.s0.2 W
 rw [show u8s q.su = HC.toArray by rw [← HHC.out]; rfl] at hes
 go_upto_region 14 with fail
 refine wp_region_below (by kernel_rfl) (by kernel_rfl) ?_
 repeat (first
  | (with_reducible refine quiet_load_row (o := ⟨some 98,_,_,_,_,_⟩) (by kernel_rfl) 28 _ rfl w.heap.size 2 rfl HC _ HXT.out Tryz.underlying28 rfl SH1.out ?_
     simp only [Act.put,List.setIfInBounds_toArray,List.set_cons_zero,List.set_cons_succ])
  | (go_big_quiet_step (first | (go_at_call 25; exact calls_below (HSU.out _)))))
 refine wpQuiet_nil ?_
 intro _ hw'
 obtain ⟨pp,hw''⟩ := hw'
 subst hw''
 have HB13 := hid (HB9.out.trans (pp.bel.mono HB9.out.size))
 go_wp2_with fail
 go_ret
 exact ⟨rfl,HB13.out⟩
set_option maxRecDepth 100000 in
set_option maxHeartbeats 3200000 in
theorem reads13_su4 (h : QL w0 w P D gl n (keyE ++ macE) F b V ws lim false L M) (hr : R13 w R MS G Mb n c F' b' B) (q : PtrV) (nd : NodeV) (hrq : readQ keyE n q V ws false = (nd,4)) (hnb : NB nd ∧ nd.ps.length ≤ 1000000) (hnd : nd = zeroNode) (a : Nat) (hqa : q.ad = (a : Int)) (ha : a < n) (h0 : q.ad ≠ 0) (hc : checkE q n = 0) (hone : (blkRow (B a)).toArray.all (·.oneCell') = true) (hpq : (B a).1 ≠ q) (had : (B a).1.ad = (a : Int)) (hsu : ¬ (B a).1.su = q.su) (hhs : hashS ((readM V ws a).map yv) = q.su) :
 Calls Tryz.prog 17 #[.pointer (some ⟨P,0,none⟩),.pointer (some ⟨D,0,none⟩),.pointer (some ⟨R,0,none⟩),.int .i64 (n : Int),.agg (ptrRow q).toArray] w fun e w' => e = .returned (.bool true) ∧ Below w.heap.size w w' := by
 have HND := hid hnd
 clear hnd
 have HQ := hid h
 have HRR := hid hr
 have HNB := hid hnb
 have HRD := hid (fun (W : World) (hW : Below w.heap.size w W) => show Calls Tryz.prog 33 #[.pointer (some ⟨P,0,none⟩),.agg (ptrRow q).toArray] W fun e w' => ∃ k v p',e = .returned (.tuple #[.agg #[.bool nd.lf,k,v,p'],.int .i64 4]) ∧ NR w' k v p' nd ∧ Below W.heap.size W w' from by
  have z := ql_read P b F keyE macE q (h.below hW) (h.below hW).pl keyE_length macE_length
  rw [hrq] at z
  exact z)
 have hb1 := (Below.refl w.heap.size w).alloc (Nat.le_refl _) (.cells (ptrRow q).toArray 43)
 have hx1 := heap_alloc_new w (.cells (ptrRow q).toArray 43)
 have sp1 := size_ptrA q
 have hn0 := zero_node0
 have sn2 : nzero.size = (#[.bool nd.lf,.bool true,.bool true,.bool true] : Array Value).size := rfl
 obtain ⟨ZN,hZN⟩ : ∃ z,nzero = z := ⟨_,rfl⟩
 obtain ⟨RQ,hRQ⟩ : ∃ z,(ptrRow q).toArray = z := ⟨_,rfl⟩
 have HRQ := hid hRQ
 have HZN := hid hZN
 rw [hZN] at hn0 sn2
 rw [hRQ] at HRD hb1 hx1 sp1 ⊢
 have SP1 := hid sp1
 have SN2 := hid (fun (k v p : Value) => show ZN.size = (#[.bool nd.lf,k,v,p] : Array Value).size from sn2)
 have HRW := hid hrq
 clear hRQ hZN sp1 sn2 hrq h hr hnb
 generalize hw1 : w.alloc (.cells RQ 43) = w1 at *
 have HB1 := hid hb1
 have HX1 := hid hx1
 clear hb1 hx1
 go_enter Tryz.func17,Tryz.ntmps17
 go_upto_region 1 with fail
 try rw [hw1]
 clear hw1
 go_wp2_with (first
  | (with_reducible refine wpList_load_row (o := ⟨some 18,_,_,_,_,_⟩) rfl 43 _ rfl w.heap.size rfl 43 RQ (0,0) _ HX1.out Tryz.underlying43 rfl SP1.out ?_))
 refine (HRD.out w1 HB1.out).mono ?_
 rintro e w2 ⟨k1,v1,p1,rfl,hn2,hb2⟩
 have HX2 := hid ((hb2.block _ (lt_of_block HX1.out)).trans HX1.out)
 have HB2 := hid (HB1.out.trans (hb2.mono HB1.out.size))
 have HN2 := hid hn2
 have SX1 := hid (size_node nd.lf k1 v1 p1)
 have SX2 := hid (SN2.out k1 v1 p1)
 have SX3 := hid (nr_one hn2 nd.lf)
 clear hn2 hb2 HRD HB1 HX1
 go_upto_region 2 with (first
  | (with_reducible refine wpList_store_row (o := ⟨none,.store _ (.tmp 11) _,_,_,_,_⟩) rfl 38 _ _ rfl w2.heap.size #[.bool nd.lf,k1,v1,p1] rfl rfl 38 ZN (heap_alloc_new w2 _) SX1.out SX2.out SX3.out ?_))
 generalize hWs : World.setRow _ w2.heap.size _ = w3
 have hf := fresh13 w2 ZN #[.bool nd.lf,k1,v1,p1] 38 w3 hWs.symm
 have HY3 := hid hf.1
 have HX3 := hid ((hf.2.block _ (lt_of_block HX2.out)).trans HX2.out)
 have HB3 := hid (HB2.out.trans (hf.2.mono HB2.out.size))
 have HN3 := hid (HN2.out.below hf.2)
 clear hWs hf HX2 HB2 HN2
 generalize w2.heap.size = X11 at *
 have HSA := hid (show Calls Tryz.prog 34 #[.agg #[.bool nd.lf,k1,v1,p1],.agg ZN] w3 fun e w' => e = .returned (.bool true) ∧ Below w3.heap.size w3 w' from by
  have z := nsame_any k1 v1 p1 (.slice none 0 0) (.slice none 0 0) (.slice none 0 0) nd zeroNode w3 HN3.out (nr_zero _) HNB.out.1 nb_zero HNB.out.2 (by decide)
  rw [HND.out,sameN_refl] at z
  rw [← HZN.out,HND.out]
  exact z)
 go_wp2_with (first
  | (with_reducible refine wpList_load_guarded (o := ⟨some 25,_,_,_,_,_⟩) (by kernel_rfl) 38 _ rfl X11 rfl 38 #[.bool nd.lf,k1,v1,p1] (0,0) _ HY3.out Tryz.underlying38 rfl SX1.out ?_))
 refine HSA.out.mono ?_
 rintro e w4 ⟨rfl,hb4⟩
 have HB4 := hid (HB3.out.trans (hb4.mono HB3.out.size))
 have HX4 := hid ((hb4.block _ (lt_of_block HX3.out)).trans HX3.out)
 have HY4 := hid ((hb4.block _ (lt_of_block HY3.out)).trans HY3.out)
 have HN4 := hid (HN3.out.below hb4)
 clear HB3 HX3 HY3 HN3
 clear hb4 HSA
 have HNU := hid (show Calls Tryz.prog 44 #[.agg RQ] w4 fun e w' => e = .returned (.bool false) ∧ Below w4.heap.size w4 w' from by
  have z := pnull_any q w4
  rw [HRQ.out,show (q.ad == 0) = false by simpa using h0] at z
  exact z)
 go_wp2_with (first
  | (with_reducible refine wpList_load_row (o := ⟨some 31,_,_,_,_,_⟩) rfl 43 _ rfl w.heap.size rfl 43 RQ (0,0) _ HX4.out Tryz.underlying43 rfl SP1.out ?_))
 refine HNU.out.mono ?_
 rintro e w5 ⟨rfl,hb5⟩
 have HB5 := hid (HB4.out.trans (hb5.mono HB4.out.size))
 have HX5 := hid ((hb5.block _ (lt_of_block HX4.out)).trans HX4.out)
 have HY5 := hid ((hb5.block _ (lt_of_block HY4.out)).trans HY4.out)
 have HN5 := hid (HN4.out.below hb5)
 clear HB4 HX4 HY4 HN4
 clear hb5 HNU
 have HCK := hid (show Calls Tryz.prog 45 #[.agg RQ,.int .i64 (n : Int)] w5 fun e w' => e = .returned (.int .i64 0) ∧ Below w5.heap.size w5 w' from by
  have z := pcheck_any q n w5
  rw [HRQ.out] at z
  rw [hc] at z
  exact z)
 go_wp2_with (first
  | (with_reducible refine wpList_load_guarded (o := ⟨some 34,_,_,_,_,_⟩) (by kernel_rfl) 43 _ rfl w.heap.size rfl 43 RQ (0,0) _ HX5.out Tryz.underlying43 rfl SP1.out ?_))
 refine HCK.out.mono ?_
 rintro e w6 ⟨rfl,hb6⟩
 have HB6 := hid (HB5.out.trans (hb6.mono HB5.out.size))
 have HX6 := hid ((hb6.block _ (lt_of_block HX5.out)).trans HX5.out)
 have HY6 := hid ((hb6.block _ (lt_of_block HY5.out)).trans HY5.out)
 have HN6 := hid (HN5.out.below hb6)
 clear HB5 HX5 HY5 HN5
 clear hb6 HCK
 have HDN := hid (ql_down (HQ.out.below HB6.out))
 go_wp2_with fail
 refine HDN.out.mono ?_
 rintro e w7 ⟨rfl,hw⟩
 subst w7
 clear HDN
 go_wp2_with fail
 obtain ⟨BR,hBR⟩ : ∃ z,(blkRow (B a)).toArray = z := ⟨_,rfl⟩
 have HBR := hid hBR
 have hzb := zero_blk
 obtain ⟨ZB,hZB⟩ : ∃ z,(blkRow zeroBlk).toArray = z := ⟨_,rfl⟩
 rw [hZB] at hzb
 have HSB := hid (show (Tryz.prog.info? 67).map (·.size) = some BR.size from by rw [← hBR]; exact size_blk _)
 have HSE := hid (show ZB.size = BR.size from by rw [← hBR,← hZB]; simp [blkRow_length])
 have HSO := hid (show BR.all (·.oneCell') = true from by rw [← hBR]; exact hone)
 have HS := hid (show ∀ W,Below w6.heap.size w6 W → (W.cell? ⟨R,3,none⟩ = some (.map (some Mb)) ∧ W.cell? ⟨w.heap.size,0,none⟩ = some (.int .u32 (a : Int)) ∧ (Instr.lookup 50 (.map (some Mb)) (.int .u32 (a : Int)) false).run Tryz.prog W = .ok (.agg BR) W) from fun W hW => by
  have hB := HB6.out.trans (hW.mono HB6.out.size)
  have hR := HRR.out.below hB
  have hx := (hW.block _ (lt_of_block HX6.out)).trans HX6.out
  rw [← HRQ.out] at hx
  obtain ⟨x0,_,_⟩ := ptr_at hx
  rw [hqa] at x0
  have hl := bm_look hR.mp a (by have := q.a0; omega)
  rw [HBR.out] at hl
  exact ⟨hR.parts.2.2.2,x0,hl⟩)
 clear hBR hZB
 have c2 : w6.cell? ⟨R,3,none⟩ = w6.cell? ⟨R,3,none⟩ := rfl
 clear c2
 go_upto_region 8 with fail
 try simp only [Act.put]
 refine wp_region_noPanic ?_
 have HBD := hid (Below.refl w6.heap.size w6).drew
 refine wp_region_held_drew (S := fun W => W.cell? ⟨R,3,none⟩ = some (.map (some Mb)) ∧ W.cell? ⟨w.heap.size,0,none⟩ = some (.int .u32 (a : Int)) ∧ (Instr.lookup 50 (.map (some Mb)) (.int .u32 (a : Int)) false).run Tryz.prog W = .ok (.agg BR) W) (by kernel_rfl) (HS.out _ HBD.out) (fun hHeld => ?_)
 refine wpAnyH_take (i := 0) (oi := ⟨some 46,_,_,_,_,_⟩) (v := ?_) rfl (by kernel_rfl) (by decide +kernel) (by decide +kernel) (fun _ _ _ h => h) (Or.inl ⟨by rfl, ?_⟩) (by assumption) ?_
 rotate_left 1
 ·(intro w' hSw; go_simp; try with_reducible rfl)
 try simp only [Act.put,List.setIfInBounds_toArray,List.set_cons_zero,List.set_cons_succ]
 refine wpAnyH_take (i := 1) (oi := ⟨some 47,_,_,_,_,_⟩) (v := ?_) rfl (by kernel_rfl) (by decide +kernel) (by decide +kernel) (fun _ _ _ h => h) (Or.inl ⟨by rfl, ?_⟩) (by assumption) ?_
 rotate_left 1
 ·(intro w' hSw; go_simp; try with_reducible rfl)
 try simp only [Act.put,List.setIfInBounds_toArray,List.set_cons_zero,List.set_cons_succ]
 refine wpAnyH_take (i := 2) (oi := ⟨some 48,_,_,_,_,_⟩) (v := ?_) rfl (by kernel_rfl) (by decide +kernel) (by decide +kernel) (fun _ _ _ h => h) (Or.inl ⟨by rfl, ?_⟩) (by assumption) ?_
 rotate_left 1
 ·(intro w' hSw; go_simp; try with_reducible rfl)
 try simp only [Act.put,List.setIfInBounds_toArray,List.set_cons_zero,List.set_cons_succ]
 refine wpAnyH_take (i := 3) (oi := ⟨some 49,_,_,_,_,_⟩) (v := ?_) rfl (by kernel_rfl) (by decide +kernel) (by decide +kernel) (fun _ _ _ h => h) (Or.inl ⟨by rfl, ?_⟩) (by assumption) ?_
 rotate_left 1
 ·(intro w' hSw; have hc := hSw.1; go_simp; try with_reducible rfl)
 try simp only [Act.put,List.setIfInBounds_toArray,List.set_cons_zero,List.set_cons_succ]
 refine wpAnyH_take (i := 4) (oi := ⟨some 50,_,_,_,_,_⟩) (v := ?_) rfl (by kernel_rfl) (by decide +kernel) (by decide +kernel) (fun _ _ _ h => h) (Or.inl ⟨by rfl, ?_⟩) (by assumption) ?_
 rotate_left 1
 ·(intro w' hSw; go_simp; try with_reducible rfl)
 try simp only [Act.put,List.setIfInBounds_toArray,List.set_cons_zero,List.set_cons_succ]
 refine wpAnyH_take (i := 5) (oi := ⟨some 51,_,_,_,_,_⟩) (v := ?_) rfl (by kernel_rfl) (by decide +kernel) (by decide +kernel) (fun _ _ _ h => h) (Or.inl ⟨by rfl, ?_⟩) (by assumption) ?_
 rotate_left 1
 ·(intro w' hSw; have hc := hSw.2.1; go_simp; try with_reducible rfl)
 try simp only [Act.put,List.setIfInBounds_toArray,List.set_cons_zero,List.set_cons_succ]
 refine wpAnyH_take (i := 6) (oi := ⟨some 52,_,_,_,_,_⟩) (v := ?_) rfl (by kernel_rfl) (by decide +kernel) (by decide +kernel) (fun _ _ _ h => h) (Or.inl ⟨by rfl, ?_⟩) (by assumption) ?_
 rotate_left 1
 ·(intro w' hSw; have hl := hSw.2.2; go_simp; try with_reducible rfl)
 try simp only [Act.put,List.setIfInBounds_toArray,List.set_cons_zero,List.set_cons_succ]
 clear hHeld
 refine wpAnyH_ready (rs := [7]) (by decide +kernel) (by simp) ?_
 refine AllReadyH.cons rfl (fun K hK => ?_) AllReadyH.nil
 go_simp
 have hal := HBD.out.alloc HBD.out.size (.cells ZB 67)
 have hxl := heap_alloc_new w6.drew (.cells ZB 67)
 refine hK.out _ _ (HS.out _ hal) (fun hHeld => ?_)
 clear hK K hHeld
 try simp only [Act.put,List.setIfInBounds_toArray,List.set_cons_zero,List.set_cons_succ]
 refine wpAnyH_ready (rs := [8]) (by decide +kernel) (by simp) ?_
 refine AllReadyH.cons rfl (fun K hK => ?_) AllReadyH.nil
 rw [if_pos (by kernel_rfl)]
 refine wp_store_row (o := ⟨none,.store _ (.tmp 13) _,_,_,_,_⟩) 67 _ _ rfl w6.heap.size BR rfl rfl 67 ZB hxl HSB.out HSE.out HSO.out ?_
 have hst := setRow_heap (w6.alloc (.cells ZB 67)).drew w6.heap.size ZB BR 67 (0,0) hxl
 have hb8 : Below w6.heap.size w6 ((w6.alloc (.cells ZB 67)).drew.setRow w6.heap.size BR) := ybelow_row hal (Nat.le_refl w6.heap.size) BR
 refine hK.out _ _ (HS.out _ hb8) (fun hHeld => ?_)
 clear hK K hHeld
 try simp only [Act.put]
 refine wpAnyH_done (by decide +kernel) ?_ _
 refine NoPanic.normal ?_
 generalize hw8 : (w6.alloc (.cells ZB 67)).drew.setRow w6.heap.size BR = w8 at *
 have HZ8 := hid hst
 clear hw8 hal hxl hst HS HBD hzb
 have HB8 := hid (HB6.out.trans (hb8.mono HB6.out.size))
 have HX8 := hid ((hb8.block _ (lt_of_block HX6.out)).trans HX6.out)
 have HY8 := hid ((hb8.block _ (lt_of_block HY6.out)).trans HY6.out)
 have HN8 := hid (HN6.out.below hb8)
 clear HB6 HX6 HY6 HN6
 clear hb8
 generalize w6.heap.size = X13 at *
 have hz8 := HZ8.out
 rw [← HBR.out] at hz8
 obtain ⟨hrA,hrB⟩ := blk_at hz8
 have HRA := hid hrA
 have HRB := hid hrB
 have hx8 := HX8.out
 rw [← HRQ.out] at hx8
 have SPL := hid (size_ptrL (B a).1)
 obtain ⟨BL,hBL⟩ : ∃ z,ptrRow (B a).1 = z := ⟨_,rfl⟩
 have HBL := hid hBL
 rw [hBL] at SPL
 obtain ⟨xa,_,xs⟩ := ptr_at hx8
 rw [hqa] at xa
 obtain ⟨ya,_,ys⟩ := ptr_range hrA
 have HXS := hid xs
 have HYS := hid ys
 have SH1 := hid (size_hashL q)
 have SH2 := hid (size_hashL (B a).1)
 rw [hBL] at hrA
 have HRA' := hid hrA
 obtain ⟨HA,hHA⟩ : ∃ z,(B a).1.su.map (Value.int .u8) = z := ⟨_,rfl⟩
 obtain ⟨HC,hHC⟩ : ∃ z,q.su.map (Value.int .u8) = z := ⟨_,rfl⟩
 have HHC := hid hHC
 rw [hHA] at HYS SH2
 rw [hHC] at HXS SH1
 have heq := fun W => eq_ptr (B a).1 q W
 rw [HRQ.out,hBL,decide_eq_false hpq] at heq
 have heh := fun W => eq_hash (B a).1.su q.su (B a).1.s0.1 q.s0.1 (B a).1.s0.2 q.s0.2 W
 unfold u8s at heh
 rw [decide_eq_false hsu] at heh
 rw [hHA,hHC] at heh
 rw [had] at ya
 clear hz8 hx8 hrA hrB hBL hpq hHA hHC xs ys hsu
 have HRS := hid (ql_dread a (HQ.out.below HB8.out) ha)
 go_wp2_with (first
  | (with_reducible refine wpList_load_mid (op := ⟨some 54,_,_,_,_,_⟩) rfl 43 _ rfl X13 0 rfl BL _ HRA'.out Tryz.underlying43 rfl SPL.out ?_)
  | (with_reducible refine wpList_load_row (o := ⟨some 55,_,_,_,_,_⟩) rfl 43 _ rfl w.heap.size rfl 43 RQ (0,0) _ HX8.out Tryz.underlying43 rfl SP1.out ?_)
  | (with_reducible refine wpList_load_mid13 (op := ⟨some 74,_,_,_,_,_⟩) (by kernel_rfl) 28 _ rfl X13 2 rfl HA _ HYS.out Tryz.underlying28 rfl SH2.out ?_)
  | (with_reducible refine wpList_load_mid13 (op := ⟨some 76,_,_,_,_,_⟩) (by kernel_rfl) 28 _ rfl w.heap.size 2 rfl HC _ HXS.out Tryz.underlying28 rfl SH1.out ?_))
 refine HRS.out.mono ?_
 rintro e w9 ⟨rfl,hs9,hl9,hb9⟩
 have HS9 := hid hs9
 have HL9 := hid hl9
 have HXT := hid (by_range (range_below HXS.out hb9))
 have HB9 := hid (HB8.out.trans (hb9.mono HB8.out.size))
 have HX9 := hid ((hb9.block _ (lt_of_block HX8.out)).trans HX8.out)
 have HY9 := hid ((hb9.block _ (lt_of_block HY8.out)).trans HY8.out)
 have HN9 := hid (HN8.out.below hb9)
 clear HB8 HX8 HY8 HN8
 clear hb9 hs9 hl9 HRS HXS
 generalize w8.heap.size = X14 at *
 have HSU := hid (show ∀ pp : BelowBy w9,Calls Tryz.prog 25 #[.slice (some ⟨X14,0,none⟩) 512 512] pp.now (fun e w' => e = .returned (.agg HC.toArray) ∧ Below pp.now.heap.size pp.now w') from fun pp => by
  have hb := HB9.out.trans (pp.bel.mono HB9.out.size)
  have z := shasum_any ((readM V ws a).map yv) (.slice (some ⟨X14,0,none⟩) 512 512) pp.now (HQ.out.below hb).ktn ((BS.of_arr0 HS9.out HL9.out).kept pp.bel) (room_of _ _ _ (Nat.le_refl _) (by decide)) (by rw [List.length_map,HL9.out]; decide)
  rw [hhs,show u8s q.su = HC.toArray by rw [← HHC.out]; rfl] at z
  exact z)
 have hes := fun W => eq_hash_same q.su q.s0.1 q.s0.2 W
 rw [show u8s q.su = HC.toArray by rw [← HHC.out]; rfl] at hes
 go_upto_region 14 with fail
 refine wp_region_below (by kernel_rfl) (by kernel_rfl) ?_
 repeat (first
  | (with_reducible refine quiet_load_row (o := ⟨some 98,_,_,_,_,_⟩) (by kernel_rfl) 28 _ rfl w.heap.size 2 rfl HC _ HXT.out Tryz.underlying28 rfl SH1.out ?_
     simp only [Act.put,List.setIfInBounds_toArray,List.set_cons_zero,List.set_cons_succ])
  | (go_big_quiet_step (first | (go_at_call 25; exact calls_below (HSU.out _)))))
 refine wpQuiet_nil ?_
 intro _ hw'
 obtain ⟨pp,hw''⟩ := hw'
 subst hw''
 have HB13 := hid (HB9.out.trans (pp.bel.mono HB9.out.size))
 go_wp2_with fail
 go_ret
 exact ⟨rfl,HB13.out⟩
set_option maxRecDepth 100000 in
set_option maxHeartbeats 3200000 in
theorem reads13_ad5 (h : QL w0 w P D gl n (keyE ++ macE) F b V ws lim false L M) (hr : R13 w R MS G Mb n c F' b' B) (q : PtrV) (nd : NodeV) (hrq : readQ keyE n q V ws false = (nd,5)) (hnb : NB nd ∧ nd.ps.length ≤ 1000000) (hnd : nd = zeroNode) (a : Nat) (hqa : q.ad = (a : Int)) (ha : a < n) (h0 : q.ad ≠ 0) (hc : checkE q n = 0) (hone : (blkRow (B a)).toArray.all (·.oneCell') = true) (hpq : (B a).1 ≠ q) (had : (B a).1.ad ≠ (a : Int)) :
 Calls Tryz.prog 17 #[.pointer (some ⟨P,0,none⟩),.pointer (some ⟨D,0,none⟩),.pointer (some ⟨R,0,none⟩),.int .i64 (n : Int),.agg (ptrRow q).toArray] w fun e w' => e = .returned (.bool true) ∧ Below w.heap.size w w' := by
 have HND := hid hnd
 clear hnd
 have HQ := hid h
 have HRR := hid hr
 have HNB := hid hnb
 have HRD := hid (fun (W : World) (hW : Below w.heap.size w W) => show Calls Tryz.prog 33 #[.pointer (some ⟨P,0,none⟩),.agg (ptrRow q).toArray] W fun e w' => ∃ k v p',e = .returned (.tuple #[.agg #[.bool nd.lf,k,v,p'],.int .i64 5]) ∧ NR w' k v p' nd ∧ Below W.heap.size W w' from by
  have z := ql_read P b F keyE macE q (h.below hW) (h.below hW).pl keyE_length macE_length
  rw [hrq] at z
  exact z)
 have hb1 := (Below.refl w.heap.size w).alloc (Nat.le_refl _) (.cells (ptrRow q).toArray 43)
 have hx1 := heap_alloc_new w (.cells (ptrRow q).toArray 43)
 have sp1 := size_ptrA q
 have hn0 := zero_node0
 have sn2 : nzero.size = (#[.bool nd.lf,.bool true,.bool true,.bool true] : Array Value).size := rfl
 obtain ⟨ZN,hZN⟩ : ∃ z,nzero = z := ⟨_,rfl⟩
 obtain ⟨RQ,hRQ⟩ : ∃ z,(ptrRow q).toArray = z := ⟨_,rfl⟩
 have HRQ := hid hRQ
 have HZN := hid hZN
 rw [hZN] at hn0 sn2
 rw [hRQ] at HRD hb1 hx1 sp1 ⊢
 have SP1 := hid sp1
 have SN2 := hid (fun (k v p : Value) => show ZN.size = (#[.bool nd.lf,k,v,p] : Array Value).size from sn2)
 have HRW := hid hrq
 clear hRQ hZN sp1 sn2 hrq h hr hnb
 generalize hw1 : w.alloc (.cells RQ 43) = w1 at *
 have HB1 := hid hb1
 have HX1 := hid hx1
 clear hb1 hx1
 go_enter Tryz.func17,Tryz.ntmps17
 go_upto_region 1 with fail
 try rw [hw1]
 clear hw1
 go_wp2_with (first
  | (with_reducible refine wpList_load_row (o := ⟨some 18,_,_,_,_,_⟩) rfl 43 _ rfl w.heap.size rfl 43 RQ (0,0) _ HX1.out Tryz.underlying43 rfl SP1.out ?_))
 refine (HRD.out w1 HB1.out).mono ?_
 rintro e w2 ⟨k1,v1,p1,rfl,hn2,hb2⟩
 have HX2 := hid ((hb2.block _ (lt_of_block HX1.out)).trans HX1.out)
 have HB2 := hid (HB1.out.trans (hb2.mono HB1.out.size))
 have HN2 := hid hn2
 have SX1 := hid (size_node nd.lf k1 v1 p1)
 have SX2 := hid (SN2.out k1 v1 p1)
 have SX3 := hid (nr_one hn2 nd.lf)
 clear hn2 hb2 HRD HB1 HX1
 go_upto_region 2 with (first
  | (with_reducible refine wpList_store_row (o := ⟨none,.store _ (.tmp 11) _,_,_,_,_⟩) rfl 38 _ _ rfl w2.heap.size #[.bool nd.lf,k1,v1,p1] rfl rfl 38 ZN (heap_alloc_new w2 _) SX1.out SX2.out SX3.out ?_))
 generalize hWs : World.setRow _ w2.heap.size _ = w3
 have hf := fresh13 w2 ZN #[.bool nd.lf,k1,v1,p1] 38 w3 hWs.symm
 have HY3 := hid hf.1
 have HX3 := hid ((hf.2.block _ (lt_of_block HX2.out)).trans HX2.out)
 have HB3 := hid (HB2.out.trans (hf.2.mono HB2.out.size))
 have HN3 := hid (HN2.out.below hf.2)
 clear hWs hf HX2 HB2 HN2
 generalize w2.heap.size = X11 at *
 have HSA := hid (show Calls Tryz.prog 34 #[.agg #[.bool nd.lf,k1,v1,p1],.agg ZN] w3 fun e w' => e = .returned (.bool true) ∧ Below w3.heap.size w3 w' from by
  have z := nsame_any k1 v1 p1 (.slice none 0 0) (.slice none 0 0) (.slice none 0 0) nd zeroNode w3 HN3.out (nr_zero _) HNB.out.1 nb_zero HNB.out.2 (by decide)
  rw [HND.out,sameN_refl] at z
  rw [← HZN.out,HND.out]
  exact z)
 go_wp2_with (first
  | (with_reducible refine wpList_load_guarded (o := ⟨some 25,_,_,_,_,_⟩) (by kernel_rfl) 38 _ rfl X11 rfl 38 #[.bool nd.lf,k1,v1,p1] (0,0) _ HY3.out Tryz.underlying38 rfl SX1.out ?_))
 refine HSA.out.mono ?_
 rintro e w4 ⟨rfl,hb4⟩
 have HB4 := hid (HB3.out.trans (hb4.mono HB3.out.size))
 have HX4 := hid ((hb4.block _ (lt_of_block HX3.out)).trans HX3.out)
 have HY4 := hid ((hb4.block _ (lt_of_block HY3.out)).trans HY3.out)
 have HN4 := hid (HN3.out.below hb4)
 clear HB3 HX3 HY3 HN3
 clear hb4 HSA
 have HNU := hid (show Calls Tryz.prog 44 #[.agg RQ] w4 fun e w' => e = .returned (.bool false) ∧ Below w4.heap.size w4 w' from by
  have z := pnull_any q w4
  rw [HRQ.out,show (q.ad == 0) = false by simpa using h0] at z
  exact z)
 go_wp2_with (first
  | (with_reducible refine wpList_load_row (o := ⟨some 31,_,_,_,_,_⟩) rfl 43 _ rfl w.heap.size rfl 43 RQ (0,0) _ HX4.out Tryz.underlying43 rfl SP1.out ?_))
 refine HNU.out.mono ?_
 rintro e w5 ⟨rfl,hb5⟩
 have HB5 := hid (HB4.out.trans (hb5.mono HB4.out.size))
 have HX5 := hid ((hb5.block _ (lt_of_block HX4.out)).trans HX4.out)
 have HY5 := hid ((hb5.block _ (lt_of_block HY4.out)).trans HY4.out)
 have HN5 := hid (HN4.out.below hb5)
 clear HB4 HX4 HY4 HN4
 clear hb5 HNU
 have HCK := hid (show Calls Tryz.prog 45 #[.agg RQ,.int .i64 (n : Int)] w5 fun e w' => e = .returned (.int .i64 0) ∧ Below w5.heap.size w5 w' from by
  have z := pcheck_any q n w5
  rw [HRQ.out] at z
  rw [hc] at z
  exact z)
 go_wp2_with (first
  | (with_reducible refine wpList_load_guarded (o := ⟨some 34,_,_,_,_,_⟩) (by kernel_rfl) 43 _ rfl w.heap.size rfl 43 RQ (0,0) _ HX5.out Tryz.underlying43 rfl SP1.out ?_))
 refine HCK.out.mono ?_
 rintro e w6 ⟨rfl,hb6⟩
 have HB6 := hid (HB5.out.trans (hb6.mono HB5.out.size))
 have HX6 := hid ((hb6.block _ (lt_of_block HX5.out)).trans HX5.out)
 have HY6 := hid ((hb6.block _ (lt_of_block HY5.out)).trans HY5.out)
 have HN6 := hid (HN5.out.below hb6)
 clear HB5 HX5 HY5 HN5
 clear hb6 HCK
 have HDN := hid (ql_down (HQ.out.below HB6.out))
 go_wp2_with fail
 refine HDN.out.mono ?_
 rintro e w7 ⟨rfl,hw⟩
 subst w7
 clear HDN
 go_wp2_with fail
 obtain ⟨BR,hBR⟩ : ∃ z,(blkRow (B a)).toArray = z := ⟨_,rfl⟩
 have HBR := hid hBR
 have hzb := zero_blk
 obtain ⟨ZB,hZB⟩ : ∃ z,(blkRow zeroBlk).toArray = z := ⟨_,rfl⟩
 rw [hZB] at hzb
 have HSB := hid (show (Tryz.prog.info? 67).map (·.size) = some BR.size from by rw [← hBR]; exact size_blk _)
 have HSE := hid (show ZB.size = BR.size from by rw [← hBR,← hZB]; simp [blkRow_length])
 have HSO := hid (show BR.all (·.oneCell') = true from by rw [← hBR]; exact hone)
 have HS := hid (show ∀ W,Below w6.heap.size w6 W → (W.cell? ⟨R,3,none⟩ = some (.map (some Mb)) ∧ W.cell? ⟨w.heap.size,0,none⟩ = some (.int .u32 (a : Int)) ∧ (Instr.lookup 50 (.map (some Mb)) (.int .u32 (a : Int)) false).run Tryz.prog W = .ok (.agg BR) W) from fun W hW => by
  have hB := HB6.out.trans (hW.mono HB6.out.size)
  have hR := HRR.out.below hB
  have hx := (hW.block _ (lt_of_block HX6.out)).trans HX6.out
  rw [← HRQ.out] at hx
  obtain ⟨x0,_,_⟩ := ptr_at hx
  rw [hqa] at x0
  have hl := bm_look hR.mp a (by have := q.a0; omega)
  rw [HBR.out] at hl
  exact ⟨hR.parts.2.2.2,x0,hl⟩)
 clear hBR hZB
 have c2 : w6.cell? ⟨R,3,none⟩ = w6.cell? ⟨R,3,none⟩ := rfl
 clear c2
 go_upto_region 8 with fail
 try simp only [Act.put]
 refine wp_region_noPanic ?_
 have HBD := hid (Below.refl w6.heap.size w6).drew
 refine wp_region_held_drew (S := fun W => W.cell? ⟨R,3,none⟩ = some (.map (some Mb)) ∧ W.cell? ⟨w.heap.size,0,none⟩ = some (.int .u32 (a : Int)) ∧ (Instr.lookup 50 (.map (some Mb)) (.int .u32 (a : Int)) false).run Tryz.prog W = .ok (.agg BR) W) (by kernel_rfl) (HS.out _ HBD.out) (fun hHeld => ?_)
 refine wpAnyH_take (i := 0) (oi := ⟨some 46,_,_,_,_,_⟩) (v := ?_) rfl (by kernel_rfl) (by decide +kernel) (by decide +kernel) (fun _ _ _ h => h) (Or.inl ⟨by rfl, ?_⟩) (by assumption) ?_
 rotate_left 1
 ·(intro w' hSw; go_simp; try with_reducible rfl)
 try simp only [Act.put,List.setIfInBounds_toArray,List.set_cons_zero,List.set_cons_succ]
 refine wpAnyH_take (i := 1) (oi := ⟨some 47,_,_,_,_,_⟩) (v := ?_) rfl (by kernel_rfl) (by decide +kernel) (by decide +kernel) (fun _ _ _ h => h) (Or.inl ⟨by rfl, ?_⟩) (by assumption) ?_
 rotate_left 1
 ·(intro w' hSw; go_simp; try with_reducible rfl)
 try simp only [Act.put,List.setIfInBounds_toArray,List.set_cons_zero,List.set_cons_succ]
 refine wpAnyH_take (i := 2) (oi := ⟨some 48,_,_,_,_,_⟩) (v := ?_) rfl (by kernel_rfl) (by decide +kernel) (by decide +kernel) (fun _ _ _ h => h) (Or.inl ⟨by rfl, ?_⟩) (by assumption) ?_
 rotate_left 1
 ·(intro w' hSw; go_simp; try with_reducible rfl)
 try simp only [Act.put,List.setIfInBounds_toArray,List.set_cons_zero,List.set_cons_succ]
 refine wpAnyH_take (i := 3) (oi := ⟨some 49,_,_,_,_,_⟩) (v := ?_) rfl (by kernel_rfl) (by decide +kernel) (by decide +kernel) (fun _ _ _ h => h) (Or.inl ⟨by rfl, ?_⟩) (by assumption) ?_
 rotate_left 1
 ·(intro w' hSw; have hc := hSw.1; go_simp; try with_reducible rfl)
 try simp only [Act.put,List.setIfInBounds_toArray,List.set_cons_zero,List.set_cons_succ]
 refine wpAnyH_take (i := 4) (oi := ⟨some 50,_,_,_,_,_⟩) (v := ?_) rfl (by kernel_rfl) (by decide +kernel) (by decide +kernel) (fun _ _ _ h => h) (Or.inl ⟨by rfl, ?_⟩) (by assumption) ?_
 rotate_left 1
 ·(intro w' hSw; go_simp; try with_reducible rfl)
 try simp only [Act.put,List.setIfInBounds_toArray,List.set_cons_zero,List.set_cons_succ]
 refine wpAnyH_take (i := 5) (oi := ⟨some 51,_,_,_,_,_⟩) (v := ?_) rfl (by kernel_rfl) (by decide +kernel) (by decide +kernel) (fun _ _ _ h => h) (Or.inl ⟨by rfl, ?_⟩) (by assumption) ?_
 rotate_left 1
 ·(intro w' hSw; have hc := hSw.2.1; go_simp; try with_reducible rfl)
 try simp only [Act.put,List.setIfInBounds_toArray,List.set_cons_zero,List.set_cons_succ]
 refine wpAnyH_take (i := 6) (oi := ⟨some 52,_,_,_,_,_⟩) (v := ?_) rfl (by kernel_rfl) (by decide +kernel) (by decide +kernel) (fun _ _ _ h => h) (Or.inl ⟨by rfl, ?_⟩) (by assumption) ?_
 rotate_left 1
 ·(intro w' hSw; have hl := hSw.2.2; go_simp; try with_reducible rfl)
 try simp only [Act.put,List.setIfInBounds_toArray,List.set_cons_zero,List.set_cons_succ]
 clear hHeld
 refine wpAnyH_ready (rs := [7]) (by decide +kernel) (by simp) ?_
 refine AllReadyH.cons rfl (fun K hK => ?_) AllReadyH.nil
 go_simp
 have hal := HBD.out.alloc HBD.out.size (.cells ZB 67)
 have hxl := heap_alloc_new w6.drew (.cells ZB 67)
 refine hK.out _ _ (HS.out _ hal) (fun hHeld => ?_)
 clear hK K hHeld
 try simp only [Act.put,List.setIfInBounds_toArray,List.set_cons_zero,List.set_cons_succ]
 refine wpAnyH_ready (rs := [8]) (by decide +kernel) (by simp) ?_
 refine AllReadyH.cons rfl (fun K hK => ?_) AllReadyH.nil
 rw [if_pos (by kernel_rfl)]
 refine wp_store_row (o := ⟨none,.store _ (.tmp 13) _,_,_,_,_⟩) 67 _ _ rfl w6.heap.size BR rfl rfl 67 ZB hxl HSB.out HSE.out HSO.out ?_
 have hst := setRow_heap (w6.alloc (.cells ZB 67)).drew w6.heap.size ZB BR 67 (0,0) hxl
 have hb8 : Below w6.heap.size w6 ((w6.alloc (.cells ZB 67)).drew.setRow w6.heap.size BR) := ybelow_row hal (Nat.le_refl w6.heap.size) BR
 refine hK.out _ _ (HS.out _ hb8) (fun hHeld => ?_)
 clear hK K hHeld
 try simp only [Act.put]
 refine wpAnyH_done (by decide +kernel) ?_ _
 refine NoPanic.normal ?_
 generalize hw8 : (w6.alloc (.cells ZB 67)).drew.setRow w6.heap.size BR = w8 at *
 have HZ8 := hid hst
 clear hw8 hal hxl hst HS HBD hzb
 have HB8 := hid (HB6.out.trans (hb8.mono HB6.out.size))
 have HX8 := hid ((hb8.block _ (lt_of_block HX6.out)).trans HX6.out)
 have HY8 := hid ((hb8.block _ (lt_of_block HY6.out)).trans HY6.out)
 have HN8 := hid (HN6.out.below hb8)
 clear HB6 HX6 HY6 HN6
 clear hb8
 generalize w6.heap.size = X13 at *
 have hz8 := HZ8.out
 rw [← HBR.out] at hz8
 obtain ⟨hrA,hrB⟩ := blk_at hz8
 have HRA := hid hrA
 have HRB := hid hrB
 have hx8 := HX8.out
 rw [← HRQ.out] at hx8
 have SPL := hid (size_ptrL (B a).1)
 obtain ⟨BL,hBL⟩ : ∃ z,ptrRow (B a).1 = z := ⟨_,rfl⟩
 have HBL := hid hBL
 rw [hBL] at SPL
 obtain ⟨xa,_,xs⟩ := ptr_at hx8
 rw [hqa] at xa
 obtain ⟨ya,_,ys⟩ := ptr_range hrA
 have HXS := hid xs
 have HYS := hid ys
 have SH1 := hid (size_hashL q)
 have SH2 := hid (size_hashL (B a).1)
 rw [hBL] at hrA
 have HRA' := hid hrA
 obtain ⟨HA,hHA⟩ : ∃ z,(B a).1.su.map (Value.int .u8) = z := ⟨_,rfl⟩
 obtain ⟨HC,hHC⟩ : ∃ z,q.su.map (Value.int .u8) = z := ⟨_,rfl⟩
 have HHC := hid hHC
 rw [hHA] at HYS SH2
 rw [hHC] at HXS SH1
 have heq := fun W => eq_ptr (B a).1 q W
 rw [HRQ.out,hBL,decide_eq_false hpq] at heq
 have hne : ((B a).1.ad == (a : Int)) = false := by simpa using had
 clear hz8 hx8 hrA hrB hBL hpq hHA hHC xs ys
 have HRS := hid (ql_dread a (HQ.out.below HB8.out) ha)
 go_wp2_with (first
  | (with_reducible refine wpList_load_mid (op := ⟨some 54,_,_,_,_,_⟩) rfl 43 _ rfl X13 0 rfl BL _ HRA'.out Tryz.underlying43 rfl SPL.out ?_)
  | (with_reducible refine wpList_load_row (o := ⟨some 55,_,_,_,_,_⟩) rfl 43 _ rfl w.heap.size rfl 43 RQ (0,0) _ HX8.out Tryz.underlying43 rfl SP1.out ?_))
 refine HRS.out.mono ?_
 rintro e w9 ⟨rfl,hs9,hl9,hb9⟩
 have HS9 := hid hs9
 have HL9 := hid hl9
 have HXT := hid (by_range (range_below HXS.out hb9))
 have HB9 := hid (HB8.out.trans (hb9.mono HB8.out.size))
 have HX9 := hid ((hb9.block _ (lt_of_block HX8.out)).trans HX8.out)
 have HY9 := hid ((hb9.block _ (lt_of_block HY8.out)).trans HY8.out)
 have HN9 := hid (HN8.out.below hb9)
 clear HB8 HX8 HY8 HN8
 clear hb9 hs9 hl9 HRS HXS
 generalize w8.heap.size = X14 at *
 go_upto_region 14 with fail
 refine wp_region_below (by kernel_rfl) (by kernel_rfl) ?_
 repeat (first
  | (go_big_quiet_step (fail)))
 refine wpQuiet_nil ?_
 intro _ hw'
 obtain ⟨pp,hw''⟩ := hw'
 subst hw''
 have HB13 := hid (HB9.out.trans (pp.bel.mono HB9.out.size))
 go_wp2_with fail
 go_ret
 exact ⟨rfl,HB13.out⟩
set_option maxRecDepth 100000 in
set_option maxHeartbeats 3200000 in
theorem reads13_su5 (h : QL w0 w P D gl n (keyE ++ macE) F b V ws lim false L M) (hr : R13 w R MS G Mb n c F' b' B) (q : PtrV) (nd : NodeV) (hrq : readQ keyE n q V ws false = (nd,5)) (hnb : NB nd ∧ nd.ps.length ≤ 1000000) (hnd : nd = zeroNode) (a : Nat) (hqa : q.ad = (a : Int)) (ha : a < n) (h0 : q.ad ≠ 0) (hc : checkE q n = 0) (hone : (blkRow (B a)).toArray.all (·.oneCell') = true) (hpq : (B a).1 ≠ q) (had : (B a).1.ad = (a : Int)) (hsu : ¬ (B a).1.su = q.su) :
 Calls Tryz.prog 17 #[.pointer (some ⟨P,0,none⟩),.pointer (some ⟨D,0,none⟩),.pointer (some ⟨R,0,none⟩),.int .i64 (n : Int),.agg (ptrRow q).toArray] w fun e w' => e = .returned (.bool true) ∧ Below w.heap.size w w' := by
 have HND := hid hnd
 clear hnd
 have HQ := hid h
 have HRR := hid hr
 have HNB := hid hnb
 have HRD := hid (fun (W : World) (hW : Below w.heap.size w W) => show Calls Tryz.prog 33 #[.pointer (some ⟨P,0,none⟩),.agg (ptrRow q).toArray] W fun e w' => ∃ k v p',e = .returned (.tuple #[.agg #[.bool nd.lf,k,v,p'],.int .i64 5]) ∧ NR w' k v p' nd ∧ Below W.heap.size W w' from by
  have z := ql_read P b F keyE macE q (h.below hW) (h.below hW).pl keyE_length macE_length
  rw [hrq] at z
  exact z)
 have hb1 := (Below.refl w.heap.size w).alloc (Nat.le_refl _) (.cells (ptrRow q).toArray 43)
 have hx1 := heap_alloc_new w (.cells (ptrRow q).toArray 43)
 have sp1 := size_ptrA q
 have hn0 := zero_node0
 have sn2 : nzero.size = (#[.bool nd.lf,.bool true,.bool true,.bool true] : Array Value).size := rfl
 obtain ⟨ZN,hZN⟩ : ∃ z,nzero = z := ⟨_,rfl⟩
 obtain ⟨RQ,hRQ⟩ : ∃ z,(ptrRow q).toArray = z := ⟨_,rfl⟩
 have HRQ := hid hRQ
 have HZN := hid hZN
 rw [hZN] at hn0 sn2
 rw [hRQ] at HRD hb1 hx1 sp1 ⊢
 have SP1 := hid sp1
 have SN2 := hid (fun (k v p : Value) => show ZN.size = (#[.bool nd.lf,k,v,p] : Array Value).size from sn2)
 have HRW := hid hrq
 clear hRQ hZN sp1 sn2 hrq h hr hnb
 generalize hw1 : w.alloc (.cells RQ 43) = w1 at *
 have HB1 := hid hb1
 have HX1 := hid hx1
 clear hb1 hx1
 go_enter Tryz.func17,Tryz.ntmps17
 go_upto_region 1 with fail
 try rw [hw1]
 clear hw1
 go_wp2_with (first
  | (with_reducible refine wpList_load_row (o := ⟨some 18,_,_,_,_,_⟩) rfl 43 _ rfl w.heap.size rfl 43 RQ (0,0) _ HX1.out Tryz.underlying43 rfl SP1.out ?_))
 refine (HRD.out w1 HB1.out).mono ?_
 rintro e w2 ⟨k1,v1,p1,rfl,hn2,hb2⟩
 have HX2 := hid ((hb2.block _ (lt_of_block HX1.out)).trans HX1.out)
 have HB2 := hid (HB1.out.trans (hb2.mono HB1.out.size))
 have HN2 := hid hn2
 have SX1 := hid (size_node nd.lf k1 v1 p1)
 have SX2 := hid (SN2.out k1 v1 p1)
 have SX3 := hid (nr_one hn2 nd.lf)
 clear hn2 hb2 HRD HB1 HX1
 go_upto_region 2 with (first
  | (with_reducible refine wpList_store_row (o := ⟨none,.store _ (.tmp 11) _,_,_,_,_⟩) rfl 38 _ _ rfl w2.heap.size #[.bool nd.lf,k1,v1,p1] rfl rfl 38 ZN (heap_alloc_new w2 _) SX1.out SX2.out SX3.out ?_))
 generalize hWs : World.setRow _ w2.heap.size _ = w3
 have hf := fresh13 w2 ZN #[.bool nd.lf,k1,v1,p1] 38 w3 hWs.symm
 have HY3 := hid hf.1
 have HX3 := hid ((hf.2.block _ (lt_of_block HX2.out)).trans HX2.out)
 have HB3 := hid (HB2.out.trans (hf.2.mono HB2.out.size))
 have HN3 := hid (HN2.out.below hf.2)
 clear hWs hf HX2 HB2 HN2
 generalize w2.heap.size = X11 at *
 have HSA := hid (show Calls Tryz.prog 34 #[.agg #[.bool nd.lf,k1,v1,p1],.agg ZN] w3 fun e w' => e = .returned (.bool true) ∧ Below w3.heap.size w3 w' from by
  have z := nsame_any k1 v1 p1 (.slice none 0 0) (.slice none 0 0) (.slice none 0 0) nd zeroNode w3 HN3.out (nr_zero _) HNB.out.1 nb_zero HNB.out.2 (by decide)
  rw [HND.out,sameN_refl] at z
  rw [← HZN.out,HND.out]
  exact z)
 go_wp2_with (first
  | (with_reducible refine wpList_load_guarded (o := ⟨some 25,_,_,_,_,_⟩) (by kernel_rfl) 38 _ rfl X11 rfl 38 #[.bool nd.lf,k1,v1,p1] (0,0) _ HY3.out Tryz.underlying38 rfl SX1.out ?_))
 refine HSA.out.mono ?_
 rintro e w4 ⟨rfl,hb4⟩
 have HB4 := hid (HB3.out.trans (hb4.mono HB3.out.size))
 have HX4 := hid ((hb4.block _ (lt_of_block HX3.out)).trans HX3.out)
 have HY4 := hid ((hb4.block _ (lt_of_block HY3.out)).trans HY3.out)
 have HN4 := hid (HN3.out.below hb4)
 clear HB3 HX3 HY3 HN3
 clear hb4 HSA
 have HNU := hid (show Calls Tryz.prog 44 #[.agg RQ] w4 fun e w' => e = .returned (.bool false) ∧ Below w4.heap.size w4 w' from by
  have z := pnull_any q w4
  rw [HRQ.out,show (q.ad == 0) = false by simpa using h0] at z
  exact z)
 go_wp2_with (first
  | (with_reducible refine wpList_load_row (o := ⟨some 31,_,_,_,_,_⟩) rfl 43 _ rfl w.heap.size rfl 43 RQ (0,0) _ HX4.out Tryz.underlying43 rfl SP1.out ?_))
 refine HNU.out.mono ?_
 rintro e w5 ⟨rfl,hb5⟩
 have HB5 := hid (HB4.out.trans (hb5.mono HB4.out.size))
 have HX5 := hid ((hb5.block _ (lt_of_block HX4.out)).trans HX4.out)
 have HY5 := hid ((hb5.block _ (lt_of_block HY4.out)).trans HY4.out)
 have HN5 := hid (HN4.out.below hb5)
 clear HB4 HX4 HY4 HN4
 clear hb5 HNU
 have HCK := hid (show Calls Tryz.prog 45 #[.agg RQ,.int .i64 (n : Int)] w5 fun e w' => e = .returned (.int .i64 0) ∧ Below w5.heap.size w5 w' from by
  have z := pcheck_any q n w5
  rw [HRQ.out] at z
  rw [hc] at z
  exact z)
 go_wp2_with (first
  | (with_reducible refine wpList_load_guarded (o := ⟨some 34,_,_,_,_,_⟩) (by kernel_rfl) 43 _ rfl w.heap.size rfl 43 RQ (0,0) _ HX5.out Tryz.underlying43 rfl SP1.out ?_))
 refine HCK.out.mono ?_
 rintro e w6 ⟨rfl,hb6⟩
 have HB6 := hid (HB5.out.trans (hb6.mono HB5.out.size))
 have HX6 := hid ((hb6.block _ (lt_of_block HX5.out)).trans HX5.out)
 have HY6 := hid ((hb6.block _ (lt_of_block HY5.out)).trans HY5.out)
 have HN6 := hid (HN5.out.below hb6)
 clear HB5 HX5 HY5 HN5
 clear hb6 HCK
 have HDN := hid (ql_down (HQ.out.below HB6.out))
 go_wp2_with fail
 refine HDN.out.mono ?_
 rintro e w7 ⟨rfl,hw⟩
 subst w7
 clear HDN
 go_wp2_with fail
 obtain ⟨BR,hBR⟩ : ∃ z,(blkRow (B a)).toArray = z := ⟨_,rfl⟩
 have HBR := hid hBR
 have hzb := zero_blk
 obtain ⟨ZB,hZB⟩ : ∃ z,(blkRow zeroBlk).toArray = z := ⟨_,rfl⟩
 rw [hZB] at hzb
 have HSB := hid (show (Tryz.prog.info? 67).map (·.size) = some BR.size from by rw [← hBR]; exact size_blk _)
 have HSE := hid (show ZB.size = BR.size from by rw [← hBR,← hZB]; simp [blkRow_length])
 have HSO := hid (show BR.all (·.oneCell') = true from by rw [← hBR]; exact hone)
 have HS := hid (show ∀ W,Below w6.heap.size w6 W → (W.cell? ⟨R,3,none⟩ = some (.map (some Mb)) ∧ W.cell? ⟨w.heap.size,0,none⟩ = some (.int .u32 (a : Int)) ∧ (Instr.lookup 50 (.map (some Mb)) (.int .u32 (a : Int)) false).run Tryz.prog W = .ok (.agg BR) W) from fun W hW => by
  have hB := HB6.out.trans (hW.mono HB6.out.size)
  have hR := HRR.out.below hB
  have hx := (hW.block _ (lt_of_block HX6.out)).trans HX6.out
  rw [← HRQ.out] at hx
  obtain ⟨x0,_,_⟩ := ptr_at hx
  rw [hqa] at x0
  have hl := bm_look hR.mp a (by have := q.a0; omega)
  rw [HBR.out] at hl
  exact ⟨hR.parts.2.2.2,x0,hl⟩)
 clear hBR hZB
 have c2 : w6.cell? ⟨R,3,none⟩ = w6.cell? ⟨R,3,none⟩ := rfl
 clear c2
 go_upto_region 8 with fail
 try simp only [Act.put]
 refine wp_region_noPanic ?_
 have HBD := hid (Below.refl w6.heap.size w6).drew
 refine wp_region_held_drew (S := fun W => W.cell? ⟨R,3,none⟩ = some (.map (some Mb)) ∧ W.cell? ⟨w.heap.size,0,none⟩ = some (.int .u32 (a : Int)) ∧ (Instr.lookup 50 (.map (some Mb)) (.int .u32 (a : Int)) false).run Tryz.prog W = .ok (.agg BR) W) (by kernel_rfl) (HS.out _ HBD.out) (fun hHeld => ?_)
 refine wpAnyH_take (i := 0) (oi := ⟨some 46,_,_,_,_,_⟩) (v := ?_) rfl (by kernel_rfl) (by decide +kernel) (by decide +kernel) (fun _ _ _ h => h) (Or.inl ⟨by rfl, ?_⟩) (by assumption) ?_
 rotate_left 1
 ·(intro w' hSw; go_simp; try with_reducible rfl)
 try simp only [Act.put,List.setIfInBounds_toArray,List.set_cons_zero,List.set_cons_succ]
 refine wpAnyH_take (i := 1) (oi := ⟨some 47,_,_,_,_,_⟩) (v := ?_) rfl (by kernel_rfl) (by decide +kernel) (by decide +kernel) (fun _ _ _ h => h) (Or.inl ⟨by rfl, ?_⟩) (by assumption) ?_
 rotate_left 1
 ·(intro w' hSw; go_simp; try with_reducible rfl)
 try simp only [Act.put,List.setIfInBounds_toArray,List.set_cons_zero,List.set_cons_succ]
 refine wpAnyH_take (i := 2) (oi := ⟨some 48,_,_,_,_,_⟩) (v := ?_) rfl (by kernel_rfl) (by decide +kernel) (by decide +kernel) (fun _ _ _ h => h) (Or.inl ⟨by rfl, ?_⟩) (by assumption) ?_
 rotate_left 1
 ·(intro w' hSw; go_simp; try with_reducible rfl)
 try simp only [Act.put,List.setIfInBounds_toArray,List.set_cons_zero,List.set_cons_succ]
 refine wpAnyH_take (i := 3) (oi := ⟨some 49,_,_,_,_,_⟩) (v := ?_) rfl (by kernel_rfl) (by decide +kernel) (by decide +kernel) (fun _ _ _ h => h) (Or.inl ⟨by rfl, ?_⟩) (by assumption) ?_
 rotate_left 1
 ·(intro w' hSw; have hc := hSw.1; go_simp; try with_reducible rfl)
 try simp only [Act.put,List.setIfInBounds_toArray,List.set_cons_zero,List.set_cons_succ]
 refine wpAnyH_take (i := 4) (oi := ⟨some 50,_,_,_,_,_⟩) (v := ?_) rfl (by kernel_rfl) (by decide +kernel) (by decide +kernel) (fun _ _ _ h => h) (Or.inl ⟨by rfl, ?_⟩) (by assumption) ?_
 rotate_left 1
 ·(intro w' hSw; go_simp; try with_reducible rfl)
 try simp only [Act.put,List.setIfInBounds_toArray,List.set_cons_zero,List.set_cons_succ]
 refine wpAnyH_take (i := 5) (oi := ⟨some 51,_,_,_,_,_⟩) (v := ?_) rfl (by kernel_rfl) (by decide +kernel) (by decide +kernel) (fun _ _ _ h => h) (Or.inl ⟨by rfl, ?_⟩) (by assumption) ?_
 rotate_left 1
 ·(intro w' hSw; have hc := hSw.2.1; go_simp; try with_reducible rfl)
 try simp only [Act.put,List.setIfInBounds_toArray,List.set_cons_zero,List.set_cons_succ]
 refine wpAnyH_take (i := 6) (oi := ⟨some 52,_,_,_,_,_⟩) (v := ?_) rfl (by kernel_rfl) (by decide +kernel) (by decide +kernel) (fun _ _ _ h => h) (Or.inl ⟨by rfl, ?_⟩) (by assumption) ?_
 rotate_left 1
 ·(intro w' hSw; have hl := hSw.2.2; go_simp; try with_reducible rfl)
 try simp only [Act.put,List.setIfInBounds_toArray,List.set_cons_zero,List.set_cons_succ]
 clear hHeld
 refine wpAnyH_ready (rs := [7]) (by decide +kernel) (by simp) ?_
 refine AllReadyH.cons rfl (fun K hK => ?_) AllReadyH.nil
 go_simp
 have hal := HBD.out.alloc HBD.out.size (.cells ZB 67)
 have hxl := heap_alloc_new w6.drew (.cells ZB 67)
 refine hK.out _ _ (HS.out _ hal) (fun hHeld => ?_)
 clear hK K hHeld
 try simp only [Act.put,List.setIfInBounds_toArray,List.set_cons_zero,List.set_cons_succ]
 refine wpAnyH_ready (rs := [8]) (by decide +kernel) (by simp) ?_
 refine AllReadyH.cons rfl (fun K hK => ?_) AllReadyH.nil
 rw [if_pos (by kernel_rfl)]
 refine wp_store_row (o := ⟨none,.store _ (.tmp 13) _,_,_,_,_⟩) 67 _ _ rfl w6.heap.size BR rfl rfl 67 ZB hxl HSB.out HSE.out HSO.out ?_
 have hst := setRow_heap (w6.alloc (.cells ZB 67)).drew w6.heap.size ZB BR 67 (0,0) hxl
 have hb8 : Below w6.heap.size w6 ((w6.alloc (.cells ZB 67)).drew.setRow w6.heap.size BR) := ybelow_row hal (Nat.le_refl w6.heap.size) BR
 refine hK.out _ _ (HS.out _ hb8) (fun hHeld => ?_)
 clear hK K hHeld
 try simp only [Act.put]
 refine wpAnyH_done (by decide +kernel) ?_ _
 refine NoPanic.normal ?_
 generalize hw8 : (w6.alloc (.cells ZB 67)).drew.setRow w6.heap.size BR = w8 at *
 have HZ8 := hid hst
 clear hw8 hal hxl hst HS HBD hzb
 have HB8 := hid (HB6.out.trans (hb8.mono HB6.out.size))
 have HX8 := hid ((hb8.block _ (lt_of_block HX6.out)).trans HX6.out)
 have HY8 := hid ((hb8.block _ (lt_of_block HY6.out)).trans HY6.out)
 have HN8 := hid (HN6.out.below hb8)
 clear HB6 HX6 HY6 HN6
 clear hb8
 generalize w6.heap.size = X13 at *
 have hz8 := HZ8.out
 rw [← HBR.out] at hz8
 obtain ⟨hrA,hrB⟩ := blk_at hz8
 have HRA := hid hrA
 have HRB := hid hrB
 have hx8 := HX8.out
 rw [← HRQ.out] at hx8
 have SPL := hid (size_ptrL (B a).1)
 obtain ⟨BL,hBL⟩ : ∃ z,ptrRow (B a).1 = z := ⟨_,rfl⟩
 have HBL := hid hBL
 rw [hBL] at SPL
 obtain ⟨xa,_,xs⟩ := ptr_at hx8
 rw [hqa] at xa
 obtain ⟨ya,_,ys⟩ := ptr_range hrA
 have HXS := hid xs
 have HYS := hid ys
 have SH1 := hid (size_hashL q)
 have SH2 := hid (size_hashL (B a).1)
 rw [hBL] at hrA
 have HRA' := hid hrA
 obtain ⟨HA,hHA⟩ : ∃ z,(B a).1.su.map (Value.int .u8) = z := ⟨_,rfl⟩
 obtain ⟨HC,hHC⟩ : ∃ z,q.su.map (Value.int .u8) = z := ⟨_,rfl⟩
 have HHC := hid hHC
 rw [hHA] at HYS SH2
 rw [hHC] at HXS SH1
 have heq := fun W => eq_ptr (B a).1 q W
 rw [HRQ.out,hBL,decide_eq_false hpq] at heq
 have heh := fun W => eq_hash (B a).1.su q.su (B a).1.s0.1 q.s0.1 (B a).1.s0.2 q.s0.2 W
 unfold u8s at heh
 rw [decide_eq_false hsu] at heh
 rw [hHA,hHC] at heh
 rw [had] at ya
 clear hz8 hx8 hrA hrB hBL hpq hHA hHC xs ys hsu
 have HRS := hid (ql_dread a (HQ.out.below HB8.out) ha)
 go_wp2_with (first
  | (with_reducible refine wpList_load_mid (op := ⟨some 54,_,_,_,_,_⟩) rfl 43 _ rfl X13 0 rfl BL _ HRA'.out Tryz.underlying43 rfl SPL.out ?_)
  | (with_reducible refine wpList_load_row (o := ⟨some 55,_,_,_,_,_⟩) rfl 43 _ rfl w.heap.size rfl 43 RQ (0,0) _ HX8.out Tryz.underlying43 rfl SP1.out ?_)
  | (with_reducible refine wpList_load_mid13 (op := ⟨some 74,_,_,_,_,_⟩) (by kernel_rfl) 28 _ rfl X13 2 rfl HA _ HYS.out Tryz.underlying28 rfl SH2.out ?_)
  | (with_reducible refine wpList_load_mid13 (op := ⟨some 76,_,_,_,_,_⟩) (by kernel_rfl) 28 _ rfl w.heap.size 2 rfl HC _ HXS.out Tryz.underlying28 rfl SH1.out ?_))
 refine HRS.out.mono ?_
 rintro e w9 ⟨rfl,hs9,hl9,hb9⟩
 have HS9 := hid hs9
 have HL9 := hid hl9
 have HXT := hid (by_range (range_below HXS.out hb9))
 have HB9 := hid (HB8.out.trans (hb9.mono HB8.out.size))
 have HX9 := hid ((hb9.block _ (lt_of_block HX8.out)).trans HX8.out)
 have HY9 := hid ((hb9.block _ (lt_of_block HY8.out)).trans HY8.out)
 have HN9 := hid (HN8.out.below hb9)
 clear HB8 HX8 HY8 HN8
 clear hb9 hs9 hl9 HRS HXS
 generalize w8.heap.size = X14 at *
 go_upto_region 14 with fail
 refine wp_region_below (by kernel_rfl) (by kernel_rfl) ?_
 repeat (first
  | (go_big_quiet_step (fail)))
 refine wpQuiet_nil ?_
 intro _ hw'
 obtain ⟨pp,hw''⟩ := hw'
 subst hw''
 have HB13 := hid (HB9.out.trans (pp.bel.mono HB9.out.size))
 go_wp2_with fail
 go_ret
 exact ⟨rfl,HB13.out⟩
end
end Go.Proofs.YtgckapolpifbkaaGreatDoor
