import Derived.Test.YtgckapolpifbkaaGreatDoorWh
namespace Go.Proofs.YtgckapolpifbkaaGreatDoor
open Lib (hid)
set_option maxRecDepth 4000
set_option linter.unusedVariables false
open Go.ChangeShapes Go.WideShapes Go.ChangeAt Go.RowKit
theorem nzero_one : nzero.all (·.oneCell') = true := by unfold nzero; simp [Value.oneCell']
theorem nzero_size : (Tryz.prog.info? 38).map (·.size) = some nzero.size := size_node false _ _ _
set_option maxRecDepth 100000 in
set_option maxHeartbeats 3200000 in
theorem prd_nil (q : PtrV) (w : World) :
 Calls Tryz.prog 33 #[.pointer none,.agg (ptrRow q).toArray] w fun e w' => e = .returned (.tuple #[.agg nzero,.int .i64 1]) ∧ Below w.heap.size w w' := by
 have HBN := hid build_node0
 have hz := zero_node0
 obtain ⟨hN0,hQ0,hsz,hb1⟩ := ytwo w (.cells (ptrRow q).toArray 43) (.cells nzero 38)
 have SZ := hid nzero_size
 have SO := hid nzero_one
 have HQ0 := hid hQ0
 have HB1 := hid hb1
 generalize nzero = Z at *
 generalize (ptrRow q).toArray = QA at *
 generalize hw1 : (w.alloc (.cells QA 43)).alloc (.cells Z 38) = w1 at *
 clear hN0 hQ0 hsz hb1
 go_enter Tryz.func33,Tryz.ntmps33
 go_upto_region 1 with fail
 try rw [hw1]
 clear hw1 hz
 go_wp2_with (first
  | (with_reducible refine wpList_build_run (o := ⟨some 11,_,_,_,_,_⟩) rfl 38 _ rfl #[] (by simp [Act.eval]) (.agg Z) (HBN.out _) ?_)
  | (with_reducible refine wpList_store_row (o := ⟨none,.store _ (.tmp 4) _,_,_,_,_⟩) rfl 38 _ _ rfl (w.heap.size + 1) Z rfl rfl 38 Z HQ0.out SZ.out rfl SO.out ?_))
 refine bodyPost_ret (v := .tuple #[.agg Z,.int .i64 1]) (results_cell_two Tryz.results33 _ _ (w.heap.size + 1) 38 Z (0,0) _ rfl (setRow_heap _ (w.heap.size + 1) _ Z _ _ HQ0.out) Tryz.underlying38 rfl SZ.out _ rfl) rfl ⟨rfl,ybelow_row HB1.out (by omega) _⟩
section
variable {w0 w w' : World} {P D gl n b : Nat} {ks V : List (BitVec 8)} {F : Nat → Bool} {ws : List (Nat × List (BitVec 8))} {lim : Int} {dn : Bool} {L : List RowE} {M : List Nat}
theorem QL.upd {X : Nat} {R R' : Array Value} {Y : TypeId} (h : QL w0 w P D gl n ks F b V ws lim dn ((X,R,Y) :: L) M) (t : Touch [X] w w') (hR : w'.heap[X]? = some (.cells R' Y (0,0))) (hne : ∀ r ∈ L,r.1 ≠ X) : QL w0 w' P D gl n ks F b V ws lim dn ((X,R',Y) :: L) M := by
 have h0 := h.rows (X,R,Y) (List.mem_cons_self ..)
 have hl : ∀ k ∈ [X],k ∈ P :: (((X,R,Y) :: L).map (·.1) ++ M) ∧ w0.heap.size ≤ k := fun k hk => by
  simp only [List.mem_singleton] at hk; subst hk
  exact ⟨by simp,h0.2.2⟩
 refine ⟨h.po.touch t hl,h.pl.touch t (by simpa using fun e => h0.2.1 e.symm),h.pn,h.kt,h.tz,fun r hr => ?_,h.mne⟩
 rcases List.mem_cons.1 hr with rfl | hr
 ·exact ⟨hR,h0.2⟩
 ·have h1 := h.rows r (List.mem_cons_of_mem _ hr)
  exact ⟨(t.block _ (lt_of_block h1.1) (by simpa using hne r hr)).trans h1.1,h1.2⟩
end
theorem made13L (w0 w : World) (n : Nat) (hK : KT w0) (hT : TZ w0) (hb : Below w0.heap.size w0 w) (h0 : 16 ≤ n) (h1 : n ≤ 4096) (L : List RowE) (M : List Nat) (hL : ∀ r ∈ L,w.heap[r.1]? = some (.cells r.2.1 r.2.2 (0,0)) ∧ w0.heap.size ≤ r.1) (hM : ∀ k ∈ M,k < w.heap.size) :
 Calls Tryz.prog 11 #[.int .i64 (n : Int)] w fun e w' => ∃ P D gl,e = .returned (.tuple #[.pointer (some ⟨P,0,none⟩),.pointer (some ⟨D,0,none⟩),.agg (yvs (keyE ++ macE)),.bool true]) ∧ QL w0 w' P D gl n (keyE ++ macE) (allF n) 0 (zeroY (n * 512)) [] (-1) false L M ∧ Below w.heap.size w w' := by
 refine (made13 w w n (hK.below hb hK.pos) (hT.below hb) (Below.refl _ _) h0 h1).mono ?_
 rintro e w' ⟨P,D,gl,he,h,hw⟩
 refine ⟨P,D,gl,he,⟨?_,h.pl,Nat.le_trans hb.size h.pn,hK,hT,fun r hr => ?_,fun e => ?_⟩,hw⟩
 ·obtain ⟨bm,vw,a1,a2,a3,a4⟩ := h.po
  have hPl := h.pl.lt
  refine ⟨bm,vw,a1,fun g hg => ⟨Nat.le_trans hb.size (a2 g hg).1,fun hm => ?_⟩,fun k hk => ?_,hb.trans (a4.mono hb.size)⟩
  ·have h1 := (a2 g hg).1
   rcases List.mem_cons.1 hm with rfl | hm
   ·exact (a2 _ hg).2 (List.mem_cons_self ..)
   ·rcases List.mem_append.1 hm with hm | hm
    ·obtain ⟨r,hr,rfl⟩ := List.mem_map.1 hm
     have := lt_of_block (hL r hr).1
     omega
    ·have := hM g hm
     omega
  ·rcases List.mem_cons.1 hk with rfl | hk
   ·exact hPl
   ·rcases List.mem_append.1 hk with hk | hk
    ·obtain ⟨r,hr,rfl⟩ := List.mem_map.1 hk
     exact Nat.lt_of_lt_of_le (lt_of_block (hL r hr).1) hw.size
    ·exact Nat.lt_of_lt_of_le (hM k hk) hw.size
 ·have h2 := hL r hr
  have h3 := lt_of_block h2.1
  have h4 := h.pn
  exact ⟨(hw.block _ h3).trans h2.1,by omega,h2.2⟩
 ·have h3 := hM P e
  have h4 := h.pn
  omega
theorem build_leaf (W : World) : (Instr.build 38 #[(0,.bool true)]).run Tryz.prog W = .ok (.agg #[.bool true,.slice none 0 0,.slice none 0 0,.slice none 0 0]) W := by kernel_rfl
theorem nr_leaf (w : World) : NR w (.slice none 0 0) (.slice none 0 0) (.slice none 0 0) leafN := ⟨(nr_zero w).ks,(nr_zero w).vs,(nr_zero w).ps⟩
theorem yvs_set13 (l : List (BitVec 8)) (i : Nat) (x : BitVec 8) : (yvs l).setIfInBounds i (.int .u8 (yv x)) = yvs (l.set i x) := by simp [yvs,List.map_set]
theorem lseal_9 : lsealE[9]? = some 208 := by decide +kernel
theorem lturn_9 : lsealE.set 9 209 = lturnE := by decide +kernel
theorem lturn_len : lturnE.length = 512 := by decide +kernel
set_option maxRecDepth 100000 in
set_option maxHeartbeats 3200000 in
theorem alive13_any (w : World) (hK : KT w) (hT : TZ w) : Calls Tryz.prog 10 #[] w fun e w' => e = .returned (.bool true) ∧ Below w.heap.size w w' := by
 have HM := hid (made13 w w 16 hK hT (Below.refl _ _) (by decide) (by decide))
 have hk0 := yvs_none
 have hp0 := zero_ptr
 have hn0 := zero_node0
 have hkl : (keyE ++ macE).length = 64 := by rw [List.length_append,keyE_length,macE_length]
 have SK := hid (size_keys (keyE ++ macE) hkl)
 have SE := hid (show (yvs (zeroY 64)).size = (yvs (keyE ++ macE)).size by rw [yvs_size,yvs_size,hkl]; rfl)
 have SO := hid (yvs_one (keyE ++ macE))
 have SP1 := hid size_ptrA
 have SP2 := hid (fun x y : PtrV => show (ptrRow x).toArray.size = (ptrRow y).toArray.size by simp [ptrRow_length])
 have SP3 := hid ptrRow_one
 clear hK hT hkl
 obtain ⟨YK,hYK⟩ : ∃ z,yvs (keyE ++ macE) = z := ⟨_,rfl⟩
 obtain ⟨ZK,hZK⟩ : ∃ z,yvs (zeroY 64) = z := ⟨_,rfl⟩
 obtain ⟨ZP,hZP⟩ : ∃ z,(ptrRow zeroPtr).toArray = z := ⟨_,rfl⟩
 obtain ⟨ZN,hZN⟩ : ∃ z,nzero = z := ⟨_,rfl⟩
 rw [hYK] at HM SK SE SO
 rw [hZK] at hk0 SE
 rw [hZP] at hp0
 rw [hZN] at hn0
 have HZP := hid hZP
 have HZN := hid hZN
 clear hYK hZK hZP hZN
 go_enter Tryz.func10,Tryz.ntmps10
 go_wp2_with fail
 refine HM.out.mono ?_
 rintro e w1 ⟨P,D,gl,rfl,hq1,_⟩
 have HQ1 := hid hq1
 clear hq1 HM
 go_upto_region 2 with (first
  | (with_reducible refine wpList_store_row (o := ⟨none,.store _ (.tmp 3) _,_,_,_,_⟩) rfl 30 _ _ rfl w1.heap.size YK rfl rfl 30 ZK (heap_alloc_new w1 _) SK.out SE.out SO.out ?_))
 generalize hWs : World.setRow _ w1.heap.size _ = w2
 have hqs := HQ1.out.fresh ZK YK 30 w2 hWs.symm
 have hbs := (fresh13 w1 ZK YK 30 w2 hWs.symm).2
 have HQ2 := hid hqs
 have HSw2 := hid hbs
 clear hWs hqs hbs HQ1
 generalize w1.heap.size = X3 at *
 have HBG := hid (show Calls Tryz.prog 14 #[.pointer (some ⟨P,0,none⟩),.int .u64 1] w2 fun e w' => e = .returned (.int .i64 0) ∧ QL w w' P D gl 16 (keyE ++ macE) (allF 16) 1 (zeroY (16 * 512)) [] (-1) false [(X3,YK,30)] [] ∧ Touch [P] w2 w' from ql_begin 1 HQ2.out)
 go_wp2_with fail
 refine HBG.out.mono ?_
 rintro e w3 ⟨rfl,hq3,_⟩
 have HQ3 := hid hq3
 clear hq3 HBG HQ2
 have HWR := hid (show Calls Tryz.prog 21 #[.pointer (some ⟨P,0,none⟩),.agg #[.bool true,.slice none 0 0,.slice none 0 0,.slice none 0 0]] w3 fun e w' => e = .returned (.tuple #[.agg (ptrRow (ptrQ keyE 1 2 leafN)).toArray,.int .i64 0]) ∧ QL w w' P D gl 16 (keyE ++ macE) (updF (allF 16) 2 false) 1 (zeroY (16 * 512)) [(2,sealQ keyE 1 2 leafN)] (-1) false [(X3,YK,30)] [] ∧ Stay [] w3 w' from ql_wok 2 keyE macE _ _ _ leafN HQ3.out keyE_length macE_length (nr_leaf _) (nb_check leaf_check) (by decide) (by decide) leaf_check (by decide) (by decide) (by simp) (by decide))
 go_wp2_with (first
  | (with_reducible refine wpList_build_run (o := ⟨some 31,_,_,_,_,_⟩) rfl 38 _ rfl #[(0,.bool true)] (by simp [Act.eval]) (.agg #[.bool true,.slice none 0 0,.slice none 0 0,.slice none 0 0]) (build_leaf _) ?_))
 refine HWR.out.mono ?_
 rintro e w4 ⟨rfl,hq4,_⟩
 have HQ4 := hid hq4
 clear hq4 HWR HQ3
 obtain ⟨PT,hPT⟩ : ∃ z,ptrQ keyE 1 2 leafN = z := ⟨_,rfl⟩
 obtain ⟨PR,hPR⟩ : ∃ z,(ptrRow PT).toArray = z := ⟨_,rfl⟩
 have HPT := hid hPT
 have HPR := hid hPR
 have SA1 := SP1.out PT
 have SA2 := SP2.out zeroPtr PT
 have SA3 := SP3.out PT
 rw [hPR] at SA1 SA2 SA3
 rw [HZP.out] at SA2
 rw [hPT,hPR]
 have SA1 := hid SA1
 have SA2 := hid SA2
 have SA3 := hid SA3
 clear hPT hPR
 go_upto_region 5 with (first
  | (with_reducible refine wpList_store_row (o := ⟨none,.store _ (.tmp 5) _,_,_,_,_⟩) rfl 43 _ _ rfl w4.heap.size PR rfl rfl 43 ZP (heap_alloc_new w4 _) SA1.out SA2.out SA3.out ?_))
 generalize hWs : World.setRow _ w4.heap.size _ = w5
 have hqs := HQ4.out.fresh ZP PR 43 w5 hWs.symm
 have hbs := (fresh13 w4 ZP PR 43 w5 hWs.symm).2
 have HQ5 := hid hqs
 have HSw5 := hid hbs
 clear hWs hqs hbs HQ4
 generalize w4.heap.size = X5 at *
 have HR5 := hid (HQ5.out.row 0 _ rfl)
 have HRD := hid (show Calls Tryz.prog 33 #[.pointer (some ⟨P,0,none⟩),.agg PR] w5 fun e w' => ∃ k v p',e = .returned (.tuple #[.agg #[.bool true,k,v,p'],.int .i64 0]) ∧ NR w' k v p' leafN ∧ Below w5.heap.size w5 w' from by
  have h := ql_read P 1 (updF (allF 16) 2 false) keyE macE PT HQ5.out HQ5.out.pl keyE_length macE_length
  rw [← HPT.out,readQ_wrote (kk := keyE) (b := 1) (a := 2) (n := 16) (nd := leafN) leaf_check (by decide) (by decide) (by decide) (by decide) (by decide) rfl,HPT.out,HPR.out] at h
  exact h)
 go_wp2_with (first
  | (with_reducible refine wpList_load_row (o := ⟨some 37,_,_,_,_,_⟩) rfl 43 _ rfl X5 rfl 43 PR (0,0) _ HR5.out Tryz.underlying43 rfl SA1.out ?_))
 refine HRD.out.mono ?_
 rintro e w6 ⟨k6,v6,p6,rfl,hn6,hb6⟩
 have HQ6 := hid (HQ5.out.below hb6)
 have SN1 := hid (size_node true k6 v6 p6)
 have SN2 := hid (show ZN.size = (#[.bool true,k6,v6,p6] : Array Value).size by rw [← HZN.out]; rfl)
 have SN3 := hid (nr_one hn6 true)
 clear hn6 hb6 HRD HR5 HQ5
 go_upto_region 6 with (first
  | (with_reducible refine wpList_store_row (o := ⟨none,.store _ (.tmp 7) _,_,_,_,_⟩) rfl 38 _ _ rfl w6.heap.size #[.bool true,k6,v6,p6] rfl rfl 38 ZN (heap_alloc_new w6 _) SN1.out SN2.out SN3.out ?_))
 generalize hWs : World.setRow _ w6.heap.size _ = w7
 have hqs := HQ6.out.fresh ZN #[.bool true,k6,v6,p6] 38 w7 hWs.symm
 have hbs := (fresh13 w6 ZN #[.bool true,k6,v6,p6] 38 w7 hWs.symm).2
 have HQ7 := hid hqs
 have HSw7 := hid hbs
 clear hWs hqs hbs HQ6
 generalize w6.heap.size = X7 at *
 have HDR := hid (show Calls Tryz.prog 24 #[.pointer (some ⟨D,0,none⟩),.int .u32 2] w7 (Fresh6 w7 lsealE) from by
  have h := ql_dread 2 HQ7.out (by decide)
  rw [show readM (zeroY (16 * 512)) [(2,sealQ keyE 1 2 leafN)] 2 = sealQ keyE 1 2 leafN from rfl,lsealE_eq] at h
  exact h)
 go_wp2_with fail
 refine HDR.out.mono ?_
 rintro e w8 ⟨rfl,hA8,_,hb8⟩
 have HQ8 := hid (HQ7.out.add hb8 _ (yvs lsealE) 117 (Nat.le_refl _) hA8)
 have HN8 := hid (fun r hr => show r.1 ≠ w7.heap.size from Nat.ne_of_lt (lt_of_block (HQ7.out.rows r hr).1))
 clear hA8 hb8 HDR HQ7
 generalize w7.heap.size = X8 at *
 obtain ⟨c0,c1,_⟩ := ptr_at (q := PT) (show w8.heap[X5]? = some (.cells (ptrRow PT).toArray 43 (0,0)) by rw [HPR.out]; exact HQ8.out.row 2 _ rfl)
 have hpp := ptrQ_parts (kk := keyE) (b := 1) (a := 2) (nd := leafN) (by decide) (by decide)
 rw [HPT.out] at hpp
 rw [hpp.1] at c0
 rw [hpp.2.1] at c1
 clear hpp
 have c7 := (node_at (HQ8.out.row 1 _ rfl)).1
 have c9 : w8.cell? ⟨X8,9,none⟩ = some (.int .u8 208) := by rw [cell_of_row _ _ _ _ _ _ (HQ8.out.row 0 _ rfl)]; simp [yvs,lseal_9]; rfl
 have f9 : w8.frozen? ⟨X8,9,none⟩ = false := frozen_of_row _ _ _ _ _ (HQ8.out.row 0 _ rfl)
 have hx9 : bits .xor .u8 208 1 = 209 := by decide
 have HW9 := hid (show (w8.setCell ⟨X8,9,none⟩ (.int .u8 209)).heap[X8]? = some (.cells (yvs lturnE) 117 (0,0)) ∧ Touch [X8] w8 (w8.setCell ⟨X8,9,none⟩ (.int .u8 209)) from by
  refine ⟨?_,Touch.of_only ((Only.refl X8 w8).setCell _ _) (List.mem_singleton.2 rfl)⟩
  rw [heap_setCell_same _ _ _ _ _ _ (HQ8.out.row 0 _ rfl),← lturn_9,← yvs_set13]; rfl)
 go_upto_region 10 with fail
 generalize w8.setCell ⟨X8,9,none⟩ (.int .u8 209) = w9 at *
 have HQ9 := hid (HQ8.out.upd HW9.out.2 HW9.out.1 HN8.out)
 clear c0 c1 c7 c9 f9 hx9 HW9 HN8 HQ8
 have HDW := hid (show Calls Tryz.prog 39 #[.pointer (some ⟨D,0,none⟩),.int .u32 2,.slice (some ⟨X8,0,none⟩) 512 512] w9 fun e w' => e = .returned (.int .i64 0) ∧ QL w w' P D gl 16 (keyE ++ macE) (updF (allF 16) 2 false) 1 (zeroY (16 * 512)) [(2,sealQ keyE 1 2 leafN),(2,lturnE)] (-1) false [(X8,yvs lturnE,117),(X7,#[.bool true,k6,v6,p6],38),(X5,PR,43),(X3,YK,30)] [] ∧ Stay [] w9 w' from ql_dwrite13 (tb := 117) (by decide) (by decide) 2 X8 512 lturnE HQ9.out (by decide) (HQ9.out.row 0 _ rfl) lturn_len (by simp))
 go_wp2_with fail
 refine HDW.out.mono ?_
 rintro e w10 ⟨rfl,hq10,_⟩
 have HQ10 := hid hq10
 clear hq10 HDW HQ9
 have HR10 := hid (HQ10.out.row 2 _ rfl)
 have HRD := hid (show Calls Tryz.prog 33 #[.pointer (some ⟨P,0,none⟩),.agg PR] w10 fun e w' => ∃ k v p',e = .returned (.tuple #[.agg #[.bool false,k,v,p'],.int .i64 5]) ∧ NR w' k v p' zeroNode ∧ Below w10.heap.size w10 w' from by
  have h := ql_read P 1 (updF (allF 16) 2 false) keyE macE PT HQ10.out HQ10.out.pl keyE_length macE_length
  obtain ⟨g1,g2,g3⟩ := ptrQ_parts (kk := keyE) (b := 1) (a := 2) (nd := leafN) (by decide) (by decide)
  obtain ⟨g4,g5⟩ := ptrQ_may (kk := keyE) (b := 1) (a := 2) (n := 16) (nd := leafN) (by decide) (by decide) (by decide) (by decide) (by decide)
  rw [HPT.out] at g1 g2 g3 g4 g5
  have g6 : readM (zeroY (16 * 512)) [(2,sealQ keyE 1 2 leafN),(2,lturnE)] PT.ad.toNat = lturnE := by rw [g1]; rfl
  rw [readQ_sum (kk := keyE) (n := 16) (q := PT) g4 g5 (by rw [g6]; exact lturn_len) (by rw [g6,g3,lsealE_eq]; exact lturned_other),HPR.out] at h
  exact h)
 go_wp2_with (first
  | (with_reducible refine wpList_load_row (o := ⟨some 82,_,_,_,_,_⟩) rfl 43 _ rfl X5 rfl 43 PR (0,0) _ HR10.out Tryz.underlying43 rfl SA1.out ?_))
 refine HRD.out.mono ?_
 rintro e w11 ⟨k11,v11,p11,rfl,hn11,hb11⟩
 have HQ11 := hid (HQ10.out.below hb11)
 have SM1 := hid (size_node false k11 v11 p11)
 have SM2 := hid (show ZN.size = (#[.bool false,k11,v11,p11] : Array Value).size by rw [← HZN.out]; rfl)
 have SM3 := hid (nr_one hn11 false)
 clear hn11 hb11 HRD HR10 HQ10
 go_upto_region 12 with (first
  | (with_reducible refine wpList_store_row (o := ⟨none,.store _ (.tmp 11) _,_,_,_,_⟩) rfl 38 _ _ rfl w11.heap.size #[.bool false,k11,v11,p11] rfl rfl 38 ZN (heap_alloc_new w11 _) SM1.out SM2.out SM3.out ?_))
 generalize hWs : World.setRow _ w11.heap.size _ = w12
 have hqs := HQ11.out.fresh ZN #[.bool false,k11,v11,p11] 38 w12 hWs.symm
 have hbs := (fresh13 w11 ZN #[.bool false,k11,v11,p11] 38 w12 hWs.symm).2
 have HQ12 := hid hqs
 have HSw12 := hid hbs
 clear hWs hqs hbs HQ11
 generalize w11.heap.size = X12 at *
 have HR12 := hid (HQ12.out.row 3 _ rfl)
 have HRN := hid (prd_nil PT w12)
 rw [HPR.out,HZN.out] at HRN
 go_wp2_with (first
  | (with_reducible refine wpList_load_row (o := ⟨some 88,_,_,_,_,_⟩) rfl 43 _ rfl X5 rfl 43 PR (0,0) _ HR12.out Tryz.underlying43 rfl SA1.out ?_))
 refine HRN.out.mono ?_
 rintro e w13 ⟨rfl,hb13⟩
 have HQ13 := hid (HQ12.out.below hb13)
 have SZ1 := hid nzero_size
 have SZ3 := hid nzero_one
 rw [HZN.out] at SZ1 SZ3
 clear hb13 HRN HR12 HQ12
 go_upto_region 14 with (first
  | (with_reducible refine wpList_store_row (o := ⟨none,.store _ (.tmp 14) _,_,_,_,_⟩) rfl 38 _ _ rfl w13.heap.size ZN rfl rfl 38 ZN (heap_alloc_new w13 _) SZ1.out rfl SZ3.out ?_))
 generalize hWs : World.setRow _ w13.heap.size _ = w14
 have hqs := HQ13.out.fresh ZN ZN 38 w14 hWs.symm
 have hbs := (fresh13 w13 ZN ZN 38 w14 hWs.symm).2
 have HQ14 := hid hqs
 have HSw14 := hid hbs
 clear hWs hqs hbs HQ13
 generalize w13.heap.size = X14 at *
 have HLF := hid (show Calls Tryz.prog 29 #[.pointer (some ⟨P,0,none⟩)] w14 fun e w' => e = .returned (.int .i64 13) ∧ w' = w14 from by
  have h := ql_left HQ14.out
  rw [show cnt (updF (allF 16) 2 false) 16 = 13 by decide] at h
  exact h)
 go_wp2_with fail
 refine HLF.out.mono ?_
 rintro e w15 ⟨rfl,rfl⟩
 clear HLF
 go_wp2_with fail
 go_ret
 exact ⟨rfl,HQ14.out.bel⟩
end Go.Proofs.YtgckapolpifbkaaGreatDoor
