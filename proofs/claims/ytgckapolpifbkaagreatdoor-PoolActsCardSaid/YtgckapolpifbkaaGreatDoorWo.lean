import Derived.Test.YtgckapolpifbkaaGreatDoorWn
namespace Go.Proofs.YtgckapolpifbkaaGreatDoor
set_option maxRecDepth 4000
set_option linter.unusedVariables false
open Go.ChangeShapes Go.WideShapes Go.ChangeAt Go.RowKit
structure ActP where
 kd : Int
 wh : Int
 ct : Int
 e : ENode
 bi : Nat
 ab : Option Addr
 ln : Nat
 cp : Nat
 l : List Nat
 p : PtrV
def actRowP (x : ActP) : List Value := [Value.int .i64 x.kd,.int .i64 x.wh,.int .i64 x.ct] ++ (nrow x.e ++ ([Value.int .u64 (x.bi : Int),.slice x.ab x.ln x.cp] ++ ptrRow x.p))
structure ActOkP (W : World) (x : ActP) : Prop where
 k0 : -9223372036854775808 ≤ x.kd ∧ x.kd ≤ 9223372036854775807
 w0 : -9223372036854775808 ≤ x.wh ∧ x.wh ≤ 9223372036854775807
 c0 : -9223372036854775808 ≤ x.ct ∧ x.ct ≤ 9223372036854775807
 nr : NR W x.e.2.1 x.e.2.2.1 x.e.2.2.2 x.e.1
 nb : NB x.e.1
 b0 : x.bi < 18446744073709551616
 us : US W x.ab x.ln x.cp x.l
 big : x.ln ≤ 140737488351232
def RActP : World → ActP → List Value → Prop := fun W x cs => cs = actRowP x ∧ ActOkP W x
theorem actRowP_length (x : ActP) : (actRowP x).length = 43 := by simp [actRowP,nrow,ptrRow_length]
theorem opn_act13 : Opn 45 RActP := by
 intro H enc W fuel cs y h hw
 obtain ⟨xs,k,_,hx,hlen,hxl,hfs⟩ := DataW.trod_struct Tryz.underlying45 h
 rw [show Tryz.prog.cellsOf 45 = 43 by kernel_rfl] at hlen
 have hxk : xs.length = 7 := hxl
 have hd := congrArg Prod.fst hx
 dsimp only at hd
 clear hx hxl
 match xs,hxk with
 | [y0,y1,y2,y3,y4,y5,y6],_ =>
   have ei : Tryz.prog.cellsOf 3 = 1 := by kernel_rfl
   have en : Tryz.prog.cellsOf 38 = 4 := by kernel_rfl
   have eu : Tryz.prog.cellsOf 39 = 1 := by kernel_rfl
   have es : Tryz.prog.cellsOf 40 = 1 := by kernel_rfl
   have ep : Tryz.prog.cellsOf 43 = 34 := by kernel_rfl
   have hw2 : ∀ n ∈ DataW.weightsEach Tryz.prog [3,3,3,38,39,40,43] [y0.1,y1.1,y2.1,y3.1,y4.1,y5.1,y6.1],n ≤ reachBytes := fun n hn => hw n (by rw [hd]; simp only [DataW.weights,Tryz.underlying45]; exact hn)
   have g0 : DataW.trod enc Tryz.prog W 0 (fun _ => true) true k 3 ((cs.drop 0).take 1) = some y0 := by have q := hfs 0 _ rfl; simpa [ei] using q
   have g1 : DataW.trod enc Tryz.prog W 0 (fun _ => true) true k 3 ((cs.drop 1).take 1) = some y1 := by have q := hfs 1 _ rfl; simpa [ei] using q
   have g2 : DataW.trod enc Tryz.prog W 0 (fun _ => true) true k 3 ((cs.drop 2).take 1) = some y2 := by have q := hfs 2 _ rfl; simpa [ei] using q
   have g3 : DataW.trod enc Tryz.prog W 0 (fun _ => true) true k 38 ((cs.drop 3).take 4) = some y3 := by have q := hfs 3 _ rfl; simpa [en] using q
   have g4 : DataW.trod enc Tryz.prog W 0 (fun _ => true) true k 39 ((cs.drop 7).take 1) = some y4 := by have q := hfs 4 _ rfl; simpa [eu] using q
   have g5 : DataW.trod enc Tryz.prog W 0 (fun _ => true) true k 40 ((cs.drop 8).take 1) = some y5 := by have q := hfs 5 _ rfl; simpa [es] using q
   have g6 : DataW.trod enc Tryz.prog W 0 (fun _ => true) true k 43 ((cs.drop 9).take 34) = some y6 := by have q := hfs 6 _ rfl; simpa [ep] using q
   obtain ⟨kd,r0,k0,k1⟩ := opn_int .i64 _ _ Tryz.underlying3 wf_i64 _ _ _ _ _ _ g0 (fun n hn => hw2 n (DataW.weights_mem_each (j := 0) rfl rfl n hn))
   obtain ⟨wh,r1,w0,w1⟩ := opn_int .i64 _ _ Tryz.underlying3 wf_i64 _ _ _ _ _ _ g1 (fun n hn => hw2 n (DataW.weights_mem_each (j := 1) rfl rfl n hn))
   obtain ⟨ct,r2,c0,c1⟩ := opn_int .i64 _ _ Tryz.underlying3 wf_i64 _ _ _ _ _ _ g2 (fun n hn => hw2 n (DataW.weights_mem_each (j := 2) rfl rfl n hn))
   obtain ⟨nd,vk,vv,vp,r3,hnr,hnb⟩ := opn_node _ _ _ _ _ _ g3 (fun n hn => hw2 n (DataW.weights_mem_each (j := 3) rfl rfl n hn))
   obtain ⟨z,r4,z0,z1⟩ := opn_int .u64 _ _ Tryz.underlying39 wf_u64 _ _ _ _ _ _ g4 (fun n hn => hw2 n (DataW.weights_mem_each (j := 4) rfl rfl n hn))
   obtain ⟨l,a,n,c,r5,hs⟩ := opn_u32s _ _ _ _ _ _ g5 (fun n hn => hw2 n (DataW.weights_mem_each (j := 5) rfl rfl n hn))
   obtain ⟨q,r6⟩ := opn_ptr _ _ _ _ _ _ g6 (fun n hn => hw2 n (DataW.weights_mem_each (j := 6) rfl rfl n hn))
   have hcs : cs = ((cs.drop 0).take 1 ++ (cs.drop 1).take 1 ++ (cs.drop 2).take 1) ++ ((cs.drop 3).take 4 ++ (((cs.drop 7).take 1 ++ (cs.drop 8).take 1) ++ (cs.drop 9).take 34)) := by
    conv => lhs; rw [← List.drop_zero (l := cs),lcut cs 0 1,lcut cs (0 + 1) 1,lcut cs (0 + 1 + 1) 1,lcut cs (0 + 1 + 1 + 1) 4,lcut cs (0 + 1 + 1 + 1 + 4) 1,lcut cs (0 + 1 + 1 + 1 + 4 + 1) 1,lcut cs (0 + 1 + 1 + 1 + 4 + 1 + 1) 34]
    rw [List.drop_eq_nil_of_le (show cs.length ≤ 0 + 1 + 1 + 1 + 4 + 1 + 1 + 34 by omega),List.append_nil]
    simp only [List.append_assoc]
   rw [r0,r1,r2,r3,r4,r5,show (cs.drop 9).take 34 = ptrRow q from r6] at hcs
   refine ⟨⟨kd,wh,ct,(nd,vk,vv,vp),z.toNat,a,n,c,_,q⟩, ?_,⟨⟨k0,k1⟩,⟨w0,w1⟩,⟨c0,c1⟩,hnr,hnb,by show z.toNat < 18446744073709551616; omega,us_slr hs,by show n ≤ _; have := hs.big; have := hs.cap; omega⟩⟩
   rw [hcs]
   show _ = [Value.int .i64 kd,.int .i64 wh,.int .i64 ct] ++ (nrow (nd,vk,vv,vp) ++ ([Value.int .u64 (z.toNat : Int),.slice a n c] ++ ptrRow q))
   rw [Int.toNat_of_nonneg z0]
   rfl
theorem opn_acts13 : Opn 22 (RSl RActP 43) := opn_slice 43 Tryz.underlying22 (by kernel_rfl) (by decide) (of_decide_eq_true (by kernel_rfl)) opn_act13
theorem acts13_at {w w' : World} {x : List ActP} {a : Option Addr} {n c i : Nat} (h : SlR RActP 43 w x a n c) (hb : Below w.heap.size w w') (hi : i < n) :
 ∃ b off q,a = some ⟨b,off,none⟩ ∧ w'.rangeAt b (off + i * 43) (actRowP q) ∧ ActOkP w q := by
 obtain ⟨b,off,cs,h1,h2,_,h5⟩ := h.here i (by rw [h.len]; exact hi)
 obtain ⟨rfl,ho⟩ := h2
 exact ⟨b,off,_,h1,range_below h5 hb,ho⟩
theorem index_act13 (b off len cap i : Nat) (h : i < len) (W : World) : (Instr.indexAt 22 (.slice (some ⟨b,off,none⟩) len cap) (.int .i64 (i : Int))).run Tryz.prog W = .ok (.pointer (some ⟨b,off + i * 43,none⟩)) W := by
 obtain ⟨i0,hi,hs⟩ := Option.map_eq_some_iff.1 (show (Tryz.prog.info? 45).map (·.size) = some 43 by kernel_rfl)
 simp [Instr.indexAt,asIntOf,run_underlying Tryz.underlying22,sizeOf,typeInfo,hi,hs,h,Addr.add_mid]
def zeroActP : ActP := ⟨0,0,0,zeroE,0,none,0,0, [],zeroPtr⟩
theorem zero_act13 (W : World) : (zeroValue 45).run Tryz.prog W = .ok (.agg (actRowP zeroActP).toArray) W := by kernel_rfl
theorem size_act13 (x : ActP) : (Tryz.prog.info? 45).map (·.size) = some (actRowP x).length := by
 rw [show (Tryz.prog.info? 45).map (·.size) = some 43 by kernel_rfl,actRowP_length]
theorem size_act13A (x : ActP) : (Tryz.prog.info? 45).map (·.size) = some (actRowP x).toArray.size := by rw [size_act13 x]; simp
theorem act13_one (x : ActP) (w : World) (h : ActOkP w x) : (actRowP x).toArray.all (·.oneCell') = true := by
 apply all_oneCell_toArray
 intro v hv
 have h1 := ptrRow_one x.p
 have h2 := nr_one h.nr x.e.1.lf
 simp only [actRowP,List.mem_append] at hv
 rcases hv with hv | hv | hv | hv
 ·simp only [List.mem_cons,List.not_mem_nil,or_false] at hv
  rcases hv with rfl | rfl | rfl <;> rfl
 ·exact Array.all_eq_true_iff_forall_mem.1 h2 v (by simpa [nrow] using hv)
 ·simp only [List.mem_cons,List.not_mem_nil,or_false] at hv
  rcases hv with rfl | rfl <;> rfl
 ·exact Array.all_eq_true_iff_forall_mem.1 h1 v (by simpa using hv)
theorem act13_at {W : World} {T t : Nat} {fr : Nat × Nat} {x : ActP} (h : W.heap[T]? = some (.cells (actRowP x).toArray t fr)) :
 W.cell? ⟨T,0,none⟩ = some (.int .i64 x.kd) ∧ W.cell? ⟨T,1,none⟩ = some (.int .i64 x.wh) ∧ W.cell? ⟨T,2,none⟩ = some (.int .i64 x.ct) ∧ W.rangeAt T 3 (nrow x.e) ∧ W.cell? ⟨T,7,none⟩ = some (.int .u64 (x.bi : Int)) ∧ W.cell? ⟨T,8,none⟩ = some (.slice x.ab x.ln x.cp) ∧ W.rangeAt T 9 (ptrRow x.p) := by
 refine ⟨cell_of_row _ _ _ _ _ _ h,cell_of_row _ _ _ _ _ _ h,cell_of_row _ _ _ _ _ _ h,fun j v hj => ?_,cell_of_row _ _ _ _ _ _ h,cell_of_row _ _ _ _ _ _ h,fun j v hj => ?_⟩
 ·have hl : j < 4 := (List.getElem?_eq_some_iff.1 hj).1
  rw [cell_of_row _ _ _ _ _ _ h,List.getElem?_toArray,actRowP,List.getElem?_append_right (by simp),List.getElem?_append_left (by simp [nrow]; omega)]
  rw [← hj]
  congr 1
  simp
 ·have hl : j < 34 := by have := (List.getElem?_eq_some_iff.1 hj).1; rwa [ptrRow_length] at this
  rw [cell_of_row _ _ _ _ _ _ h,List.getElem?_toArray,actRowP,List.getElem?_append_right (by simp; omega),List.getElem?_append_right (by simp [nrow]; omega),List.getElem?_append_right (by simp [nrow]; omega)]
  rw [← hj]
  congr 1
  simp [nrow]
  omega
end Go.Proofs.YtgckapolpifbkaaGreatDoor
