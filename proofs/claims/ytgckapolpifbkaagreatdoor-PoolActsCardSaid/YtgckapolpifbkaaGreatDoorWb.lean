import Derived.Test.YtgckapolpifbkaaGreatDoorWa
import Derived.Test.YtgckapolpifbkaaGreatDoorDv1
import Derived.Test.YtgckapolpifbkaaGreatDoorSe0
namespace Go.Proofs.YtgckapolpifbkaaGreatDoor
open Lib (hid)
set_option maxRecDepth 4000
set_option linter.unusedVariables false
open Go.RowKit
def poolPre (D : Nat) (ks : List (BitVec 8)) : List Value := .pointer (some ⟨D,0,none⟩) :: ks.map fun b => Value.int .u8 (yv b)
theorem poolPre_length (D : Nat) (ks : List (BitVec 8)) (h : ks.length = 64) : (poolPre D ks).length = 65 := by simp [poolPre,h]
def poolRow (D n : Nat) (ks : List (BitVec 8)) (F : Nat → Bool) (b : Nat) : List Value := (poolPre D ks ++ [.int .u32 (n : Int)]) ++ (wordsF F ++ [.int .u64 (b : Int)])
theorem poolRow_length (D n : Nat) (ks : List (BitVec 8)) (F : Nat → Bool) (b : Nat) (h : ks.length = 64) : (poolRow D n ks F b).length = 131 := by
 unfold poolRow
 rw [List.length_append,List.length_append,List.length_append,poolPre_length D ks h,wordsF_length]; rfl
structure PL (w : World) (P D n : Nat) (ks : List (BitVec 8)) (F : Nat → Bool) (b : Nat) : Prop where
 sp : SG w P n F (poolPre D ks) [.int .u64 (b : Int)]
 kl : ks.length = 64
section
variable {w w' : World} {P D n b : Nat} {ks : List (BitVec 8)} {F : Nat → Bool}
theorem PL.row (h : PL w P D n ks F b) : w.heap[P]? = some (.cells (poolRow D n ks F b).toArray 101 (0,0)) := h.sp.arr
theorem PL.lt (h : PL w P D n ks F b) : P < w.heap.size := h.sp.arr.lt
theorem PL.touch {l : List Nat} (h : PL w P D n ks F b) (q : Touch l w w') (hb : P ∉ l) : PL w' P D n ks F b := ⟨h.sp.touch q hb,h.kl⟩
theorem PL.below (h : PL w P D n ks F b) (q : Below w.heap.size w w') : PL w' P D n ks F b := ⟨h.sp.below q,h.kl⟩
theorem PL.keep (h : PL w P D n ks F b) (e : w'.heap[P]? = w.heap[P]?) : PL w' P D n ks F b := ⟨⟨e.trans h.row,h.sp.pl,h.sp.lo,h.sp.hi,h.sp.own⟩,h.kl⟩
theorem PL.dev (h : PL w P D n ks F b) : w.cell? ⟨P,0,none⟩ = some (.pointer (some ⟨D,0,none⟩)) := by rw [cell_of_row w P _ _ _ _ h.row]; rfl
theorem PL.free (h : PL w P D n ks F b) (k : Nat) : w.frozen? ⟨P,k,none⟩ = false := frozen_of_row w P k _ _ h.row
theorem PL.keys (h : PL w P D n ks F b) : w.rangeAt P 1 (yvs ks).toList := by
 intro j v hv
 have hj : j < (yvs ks).toList.length := (List.getElem?_eq_some_iff.1 hv).1
 have hj2 : j < ks.length := by simpa [yvs] using hj
 rw [cell_of_row w P _ _ _ _ h.row,List.getElem?_toArray]
 unfold poolRow
 rw [List.getElem?_append_left (by rw [h.sp.l66]; have := h.kl; omega),List.getElem?_append_left (by rw [h.sp.pl]; have := h.kl; omega)]
 unfold poolPre
 rw [Nat.add_comm,List.getElem?_cons_succ]
 exact hv
theorem PL.birth (h : PL w P D n ks F b) : w.cell? ⟨P,130,none⟩ = some (.int .u64 (b : Int)) := by
 rw [cell_of_row w P _ _ _ _ h.row,List.getElem?_toArray]
 unfold poolRow
 rw [List.getElem?_append_right (by rw [h.sp.l66]; decide),h.sp.l66,List.getElem?_append_right (by rw [wordsF_length]; decide),wordsF_length]; rfl
theorem PL.setb (h : PL w P D n ks F b) (x : Nat) : PL (w.setCell ⟨P,130,none⟩ (.int .u64 (x : Int))) P D n ks F x := by
 refine ⟨⟨?_,h.sp.pl,h.sp.lo,h.sp.hi,h.sp.own⟩,h.kl⟩
 unfold SB
 rw [heap_setCell_same w P _ _ _ _ h.sp.arr]
 congr 2
 rw [List.setIfInBounds_toArray,List.set_append_right _ _ (by rw [h.sp.l66]; decide),h.sp.l66,List.set_append_right _ _ (by rw [wordsF_length]; decide),wordsF_length]; rfl
end
set_option maxHeartbeats 1000000 in
theorem pbegin_any (P D n b x : Nat) (ks : List (BitVec 8)) (F : Nat → Bool) (w : World) (h : PL w P D n ks F b) :
 Calls Tryz.prog 14 #[.pointer (some ⟨P,0,none⟩),.int .u64 (x : Int)] w fun e w' => e = .returned (.int .i64 (if x = 0 then 2 else 0)) ∧ PL w' P D n ks F (if x = 0 then b else x) ∧ Touch [P] w w' := by
 have HH := hid h
 by_cases hx : x = 0
 ·subst hx
  rw [if_pos rfl,if_pos rfl]
  clear h
  go_enter Tryz.func14,Tryz.ntmps14
  go_wp2_with fail
  go_ret
  exact ⟨rfl,HH.out,Touch.refl _ _⟩
 ·rw [if_neg hx,if_neg hx]
  have hc := h.birth
  have hf := h.free 130
  have x0 : ((x : Int) == 0) = false := by simp; omega
  have HS := hid (show PL (w.setCell ⟨P,130,none⟩ (.int .u64 (x : Int))) P D n ks F x ∧ Touch [P] w (w.setCell ⟨P,130,none⟩ (.int .u64 (x : Int))) from ⟨h.setb x,Touch.of_only ((Only.refl P w).setCell _ _) (by simp)⟩)
  clear h hx
  go_enter Tryz.func14,Tryz.ntmps14
  go_wp2_with fail
  go_ret
  exact ⟨rfl,HS.out.1,HS.out.2⟩
theorem pkeep_any (P D n b len cap : Nat) (a : Option Addr) (ks : List (BitVec 8)) (F : Nat → Bool) (l : List Nat) (w : World) (h : PL w P D n ks F b) (hl : US w a len cap l) (hlen : len ≤ 100000000) (ok : Bool) (hok : ok = true ↔ allIn n l) :
 Calls Tryz.prog 15 #[.pointer (some ⟨P,0,none⟩),.slice a len cap] w fun e w' => e = .returned (.int .i64 (setA n F l ok).1) ∧ PL w' P D n ks (setA n F l ok).2 b ∧ Touch [P] w w' := by
 have HS := hid (pset13_any P n len cap a F _ _ l w h.sp hl hlen ok hok)
 have HK := hid h.kl
 clear h hl hok
 go_enter Tryz.func15,Tryz.ntmps15
 go_wp2_with fail
 refine HS.out.mono ?_
 rintro e w2 ⟨rfl,hs,ht⟩
 have HQ := hid (And.intro hs ht)
 clear HS hs ht
 go_wp2_with fail
 go_ret
 exact ⟨rfl,⟨HQ.out.1,HK.out⟩,HQ.out.2⟩
theorem ppleft_any (P D n b : Nat) (ks : List (BitVec 8)) (F : Nat → Bool) (w : World) (h : PL w P D n ks F b) :
 Calls Tryz.prog 29 #[.pointer (some ⟨P,0,none⟩)] w fun e w' => e = .returned (.int .i64 (cnt F n : Nat)) ∧ w' = w := by
 have HS := hid (pleft13_any P n F _ _ w h.sp)
 clear h
 go_enter Tryz.func29,Tryz.ntmps29
 go_wp2_with fail
 refine HS.out.mono ?_
 rintro e w2 ⟨rfl,rfl⟩
 clear HS
 go_wp2_with fail
 go_ret
 exact ⟨rfl,rfl⟩
theorem pptaken_any (P D n b : Nat) (ks : List (BitVec 8)) (F : Nat → Bool) (w : World) (h : PL w P D n ks F b) :
 Calls Tryz.prog 27 #[.pointer (some ⟨P,0,none⟩)] w fun e w' => ∃ a c,e = .returned (.slice a (tkn F n).length c) ∧ OU w' w.heap.size (.slice a (tkn F n).length c) (tkn F n) ∧ Below w.heap.size w w' := by
 have HS := hid (ptaken13_any P n F _ _ w h.sp)
 clear h
 go_enter Tryz.func27,Tryz.ntmps27
 go_wp2_with fail
 refine HS.out.mono ?_
 rintro e w2 ⟨a,c,rfl,ho,hb⟩
 have HQ := hid (And.intro ho hb)
 clear HS ho hb
 go_wp2_with fail
 go_ret
 exact ⟨_,_,rfl,HQ.out.1,HQ.out.2⟩
def poolTail : List Value := .int .u32 0 :: (List.replicate 64 (.int .u64 0) ++ [.int .u64 0])
theorem built_pool (parts : List (Nat × Value)) : Tryz.prog.built 101 parts = Instr.fill (#[(0,1),(1,64),(65,65),(130,1)][·]?) (Value.pointer none :: (List.replicate 64 (Value.int .u8 0) ++ poolTail)).toArray parts := by kernel_rfl
theorem fill_pool (x : Value) (hx : x.cells = #[x]) (k Z R : List Value) (hk : k.length = 64) (hz : Z.length = 64) (hR : R.length = 66) :
 Instr.fill (#[(0,1),(1,64),(65,65),(130,1)][·]?) (Value.pointer none :: (Z ++ R)).toArray [(0,x),(1,.agg k.toArray)] = some (x :: (k ++ R)).toArray := by
 rw [fill_cons _ _ (x :: (Z ++ R)).toArray #[x] x 0 0 1 _ hx rfl rfl (by simp) (fun i => by
  cases i with
  | zero => simp
  | succ i => simp)]
 rw [fill_cons _ _ (x :: (k ++ R)).toArray k.toArray (.agg k.toArray) 1 1 64 _ rfl rfl (by simp [hk]) (by simp [hk,hz,hR]) (fun i => by
  simp only [List.getElem?_toArray,List.size_toArray,hk]
  cases i with
  | zero => simp
  | succ i =>
    simp only [List.getElem?_cons_succ]
    by_cases h : i < 64
    ·rw [if_pos (by omega),List.getElem?_append_left (by omega),Nat.add_sub_cancel]
    ·rw [if_neg (by omega),List.getElem?_append_right (by omega),List.getElem?_append_right (by omega),hk,hz])]
 rfl
theorem build_pool (D : Nat) (ks : List (BitVec 8)) (hk : ks.length = 64) (W : World) : (Instr.build 101 #[(0,.pointer (some ⟨D,0,none⟩)),(1,.agg (yvs ks))]).run Tryz.prog W = .ok (.agg (poolRow D 0 ks (fun _ => false) 0).toArray) W := by
 refine run_build W 101 _ _ ?_
 rw [built_pool]
 have e : poolRow D 0 ks (fun _ => false) 0 = Value.pointer (some ⟨D,0,none⟩) :: ((ks.map fun b => Value.int .u8 (yv b)) ++ poolTail) := by
  unfold poolRow poolPre poolTail
  rw [wordsF_none]
  simp
 rw [e]
 exact fill_pool _ rfl _ _ _ (by simp [hk]) (by simp) (by simp [poolTail])
theorem sp_row {w : World} {S n : Nat} {F : Nat → Bool} (h : SP w S n F) : w.heap[S]? = some (.cells (Value.int .u32 (n : Int) :: wordsF F).toArray 99 (0,0)) := h.arr
theorem size_space (n : Nat) (F : Nat → Bool) : (Tryz.prog.info? 99).map (·.size) = some (Value.int .u32 (n : Int) :: wordsF F).toArray.size := by
 rw [show (Tryz.prog.info? 99).map (·.size) = some 65 by kernel_rfl,List.size_toArray,List.length_cons,wordsF_length]
set_option maxRecDepth 100000 in
set_option maxHeartbeats 3200000 in
theorem ppnew_any (D gl bm n : Nat) (vw : Value) (V : List (BitVec 8)) (ws : List (Nat × List (BitVec 8))) (lim : Int) (dn : Bool) (ks : List (BitVec 8)) (w : World) (h : PD w D gl bm n vw V ws lim dn) (hk : ks.length = 64) (h0 : 16 ≤ n) (h1 : n ≤ 4096) :
 Calls Tryz.prog 32 #[.pointer (some ⟨D,0,none⟩),.agg (yvs ks)] w fun e w' => ∃ P,w.heap.size ≤ P ∧ e = .returned (.tuple #[.pointer (some ⟨P,0,none⟩),.int .i64 0]) ∧ PL w' P D n ks (allF n) 0 ∧ Below w.heap.size w w' := by
 have HBD := hid (build_pool D ks hk)
 have SK := hid (size_keys ks hk)
 obtain ⟨hA0,hP0,hsz,hb0⟩ := ytwo w (.cells (yvs ks) 30) (.cells (poolRow D 0 ks (fun _ => false) 0).toArray 101)
 have HK := hid hk
 have KA := hid ((hid (heap_alloc_new w (.cells (yvs ks) 30))).out)
 have HP0 := hid hP0
 have HSZ := hid hsz
 have HB0 := hid hb0
 have HN := hid (And.intro h0 h1)
 have HD := hid (fun (W : World) (hb : Below w.heap.size w W) => psize_any D gl bm n vw V ws lim dn W (h.below hb))
 have HS := hid (fun (W : World) => pnew11_ok n W h0 h1)
 have SZ := hid (size_space n (allF n))
 have HL := hid (poolPre_length D ks hk)
 have HR := hid (show (poolRow D 0 ks (fun _ => false) 0) = poolPre D ks ++ ((Value.int .u32 ((0 : Nat) : Int) :: wordsF (fun _ => false)) ++ [.int .u64 ((0 : Nat) : Int)]) by simp [poolRow])
 have ONE := hid (show (Value.int .u32 (n : Int) :: wordsF (allF n)).toArray.all (·.oneCell') = true from all_oneCell_toArray (by
  intro v hv
  rcases List.mem_cons.1 hv with rfl | hv
  ·rfl
  ·exact wordsF_one _ v hv))
 clear hA0 hP0 hsz hb0 h hk h0 h1
 generalize hPR : (poolRow D 0 ks (fun _ => false) 0).toArray = PR at *
 generalize hKS : yvs ks = KS at *
 have HPR := hid hPR
 clear hPR hKS
 go_enter Tryz.func32,Tryz.ntmps32
 go_wp2_with (first
  | (with_reducible refine wpList_load_row (o := ⟨some 12,_,_,_,_,_⟩) rfl 30 _ rfl w.heap.size rfl 30 KS (0,0) _ KA.out Tryz.underlying30 rfl SK.out ?_)
  | (with_reducible refine wpList_build_run (o := ⟨some 13,_,_,_,_,_⟩) rfl 101 _ rfl #[(0,.pointer (some ⟨D,0,none⟩)),(1,.agg KS)] (by simp [Act.eval,Act.put]) (.agg PR) (HBD.out _) ?_))
 refine (HD.out _ HB0.out).mono ?_
 rintro e w2 ⟨rfl,rfl⟩
 clear HD HBD KA SK
 generalize (w.alloc (Obj.cells KS 30)).alloc (Obj.cells PR 101) = w2 at *
 go_wp2_with fail
 refine (HS.out w2).mono ?_
 rintro e w3 ⟨rfl,hsp,hb3⟩
 have hrow := sp_row hsp
 have HP3 := hid ((hb3.block (w.heap.size + 1) (by rw [HSZ.out]; omega)).trans HP0.out)
 have HB3 := hid (HB0.out.trans (hb3.mono HB0.out.size))
 obtain ⟨R,hR⟩ : ∃ R,(Value.int .u32 (n : Int) :: wordsF (allF n)).toArray = R := ⟨_,rfl⟩
 rw [hR] at hrow SZ ONE
 have HROW := hid hrow
 have hs3 : w3.heap[w.heap.size + 1]? = some (.cells (poolPre D ks ++ ((Value.int .u32 ((0 : Nat) : Int) :: wordsF (fun _ => false)) ++ [Value.int .u64 ((0 : Nat) : Int)])).toArray 101 (0,0)) := by rw [← HR.out,HPR.out]; exact HP3.out
 obtain ⟨q1,q2⟩ := setCells_mid (Value.int .u32 (n : Int) :: wordsF (allF n)) (Value.int .u32 ((0 : Nat) : Int) :: wordsF (fun _ => false)) (poolPre D ks) [Value.int .u64 ((0 : Nat) : Int)] w3 65 HL.out (by simp [wordsF_length]) hs3
 have TH := hid (show w3.there (w.heap.size + 1) 65 R.size from fun j hj => by
  rw [← hR,List.size_toArray,List.length_cons,wordsF_length] at hj
  refine ⟨?_,frozen_of_row w3 _ _ _ _ hs3⟩
  rw [cell_of_row w3 _ _ _ _ _ hs3,List.getElem?_toArray,List.getElem?_append_right (by rw [HL.out]; omega),HL.out,Nat.add_sub_cancel_left,List.getElem?_append_left (by rw [List.length_cons,wordsF_length]; omega)]
  rw [List.getElem?_eq_getElem (by rw [List.length_cons,wordsF_length]; omega)]
  rfl)
 have HEND := hid (show PL (w3.setCells (w.heap.size + 1) 65 R.toList) (w.heap.size + 1) D n ks (allF n) 0 ∧ Below w.heap.size w (w3.setCells (w.heap.size + 1) 65 R.toList) from by
  rw [← hR]
  refine ⟨⟨⟨?_,HL.out,HN.out.1,HN.out.2,fun a ha => by unfold allF at ha; simpa using ha⟩,HK.out⟩, ?_⟩
  ·unfold SB
   rw [show (poolPre D ks ++ [Value.int .u32 (n : Int)]) ++ (wordsF (allF n) ++ [.int .u64 ((0 : Nat) : Int)]) = poolPre D ks ++ ((Value.int .u32 (n : Int) :: wordsF (allF n)) ++ [.int .u64 ((0 : Nat) : Int)]) by simp]
   exact q1
  ·exact HB3.out.trans (q2.bel _ (by omega)))
 clear hsp hb3 hrow hR q1 q2 hs3 HP0 HB0 HS HP3 HR HPR
 generalize hX : w2.heap.size = X at *
 clear hX
 go_wp2_with (first
  | (with_reducible refine wpList_load_row (o := ⟨some 26,_,_,_,_,_⟩) rfl 99 _ rfl X rfl 99 R (0,0) _ HROW.out Tryz.underlying99 rfl SZ.out ?_)
  | (with_reducible refine wpList_store_mid (op := ⟨none,.store _ (.tmp 28) _,_,_,_,_⟩) rfl 99 _ _ rfl (w.heap.size + 1) 65 R rfl rfl TH.out SZ.out ONE.out ?_))
 go_ret2
 exact ⟨w.heap.size + 1,by omega,rfl,HEND.out.1,HEND.out.2⟩
end Go.Proofs.YtgckapolpifbkaaGreatDoor
