import Derived.Test.YtljjcbmkbmloaaaGreatDoorGTr28
import Derived.Test.YtljjcbmkbmloaaaGreatDoorGTr30
import Derived.Test.YtljjcbmkbmloaaaGreatDoorGTr33
import Derived.Test.YtljjcbmkbmloaaaGreatDoorGTrA
namespace Go.Proofs.YtljjcbmkbmloaaaGreatDoor
set_option maxHeartbeats 3200000
set_option maxRecDepth 100000
set_option linter.unusedVariables false
open Lib (hid)
open Go.RowKit
def lH (D:Nat)(ks:bY):List Value := .pointer (some ⟨D,0,none⟩)::ks.map fun b=>Value.int .u8 (yv b)
theorem vN (D:Nat)(ks:bY)(h:ks.length=64):(lH D ks).length=65:=by simp [lH,h]
def kD (D n:Nat)(ks:bY)(F:Nat→Bool)(b:Nat):List Value:=(lH D ks++[.int .u32 (n:Int)])++(aZ F++[.int .u64 (b:Int)])
theorem Gh (D n:Nat)(ks:bY)(F:Nat→Bool)(b:Nat)(h:ks.length=64):(kD D n ks F b).length=131:=by
 unfold kD
 rw [List.length_append,List.length_append,List.length_append,vN D ks h,aQ]; rfl
structure PL (w:World)(P D n:Nat)(ks:bY)(F:Nat→Bool)(b:Nat):Prop where
 sp:SG w P n F (lH D ks) [.int .u64 (b:Int)]
 kl:ks.length=64
section
variable {w w':World} {P D n b:Nat} {ks:bY} {F:Nat→Bool}
theorem PL.row (h:PL w P D n ks F b):w.heap[P]? = some (.cells (kD D n ks F b).toArray 110 (0,0)):=h.sp.arr
theorem PL.lt (h:PL w P D n ks F b):P<w.heap.size:=h.sp.arr.lt
theorem PL.touch {l:List Nat}(h:PL w P D n ks F b)(q:Touch l w w')(hb:P ∉ l):PL w' P D n ks F b:=⟨h.sp.touch q hb,h.kl⟩
theorem PL.below (h:PL w P D n ks F b)(q:Below w.heap.size w w'):PL w' P D n ks F b:=⟨h.sp.below q,h.kl⟩
theorem PL.dev (h:PL w P D n ks F b):w.cell? ⟨P,0,none⟩=some (.pointer (some ⟨D,0,none⟩)):=by rw [cell_of_row w P _ _ _ _ h.row]; rfl
theorem PL.free (h:PL w P D n ks F b)(k:Nat):w.frozen? ⟨P,k,none⟩=false:=frozen_of_row w P k _ _ h.row
theorem PL.keys (h:PL w P D n ks F b):w.rangeAt P 1 (aG ks).toList:=by
 intro j v hv
 have hj:j<(aG ks).toList.length:=(List.getElem?_eq_some_iff.1 hv).1
 have hj2:j<ks.length:=by simpa [aG] using hj
 rw [cell_of_row w P _ _ _ _ h.row,List.getElem?_toArray]
 unfold kD
 rw [List.getElem?_append_left (by rw [h.sp.VY]; have:=h.kl; omega),List.getElem?_append_left (by rw [h.sp.pl]; have:=h.kl; omega)]
 unfold lH
 rw [Nat.add_comm,List.getElem?_cons_succ]
 exact hv
theorem PL.birth (h:PL w P D n ks F b):w.cell? ⟨P,130,none⟩=some (.int .u64 (b:Int)):=by
 rw [cell_of_row w P _ _ _ _ h.row,List.getElem?_toArray]
 unfold kD
 rw [List.getElem?_append_right (by rw [h.sp.VY]; decide),h.sp.VY,List.getElem?_append_right (by rw [aQ]; decide),aQ]; rfl
theorem PL.ao5 (h:PL w P D n ks F b)(x:Nat):PL (w.setCell ⟨P,130,none⟩ (.int .u64 (x:Int))) P D n ks F x:=by
 refine ⟨⟨?_,h.sp.pl,h.sp.lo,h.sp.hi,h.sp.own⟩,h.kl⟩
 unfold SB
 rw [heap_setCell_same w P _ _ _ _ h.sp.arr]
 congr 2
 rw [List.setIfInBounds_toArray,List.set_append_right _ _ (by rw [h.sp.VY]; decide),h.sp.VY,List.set_append_right _ _ (by rw [aQ]; decide),aQ]; rfl
end
theorem UC (P D n b x:Nat)(ks:bY)(F:Nat→Bool)(w:World)(h:PL w P D n ks F b) :
 Calls Tryz.prog 32 #[.pointer (some ⟨P,0,none⟩),.int .u64 (x:Int)] w fun e w'=>e = .returned (.int .i64 (if x=0 then 2 else 0))∧PL w' P D n ks F (if x=0 then b else x)∧Touch [P] w w':=by
 have HH:=hid h
 by_cases hx:x=0
 ·subst hx
  rw [if_pos rfl,if_pos rfl]
  clear h
  go_enter Tryz.func32,Tryz.ntmps32
  go_wp2_with fail
  go_ret
  exact ⟨rfl,HH.out,Touch.refl _ _⟩
 ·rw [if_neg hx,if_neg hx]
  have hc:=h.birth
  have hf:=h.free 130
  have x0:((x:Int) == 0)=false:=by simp; omega
  have HS:=hid (show PL (w.setCell ⟨P,130,none⟩ (.int .u64 (x:Int))) P D n ks F x∧Touch [P] w (w.setCell ⟨P,130,none⟩ (.int .u64 (x:Int))) from ⟨h.ao5 x,Touch.dQ ((Only.refl P w).setCell _ _) (by simp)⟩)
  clear h hx
  go_enter Tryz.func32,Tryz.ntmps32
  go_wp2_with fail
  go_ret
  exact ⟨rfl,HS.out.1,HS.out.2⟩
theorem YN (P D n b len cap:Nat)(a:bO)(ks:bY)(F:Nat→Bool)(l:List Nat)(w:World)(h:PL w P D n ks F b)(hl:US w a len cap l)(hlen:len≤100000000)(ok:Bool)(hok:ok=true↔allIn n l) :
 Calls Tryz.prog 23 #[.pointer (some ⟨P,0,none⟩),.slice a len cap] w fun e w'=>e = .returned (.int .i64 (Kw n F l ok).1)∧PL w' P D n ks (Kw n F l ok).2 b∧Touch [P] w w':=by
 have HS:=hid (Un P n len cap a F _ _ l w h.sp hl hlen ok hok)
 have HK:=hid h.kl
 clear h hl hok
 go_enter Tryz.func23,Tryz.ntmps23
 go_wp2_with fail
 refine HS.out.mono ?_
 rintro e w2 ⟨rfl,hs,ht⟩
 have HQ:=hid (And.intro hs ht)
 clear HS hs ht
 go_wp2_with fail
 go_ret
 exact ⟨rfl,⟨HQ.out.1,HK.out⟩,HQ.out.2⟩
theorem UD (P D n b:Nat)(ks:bY)(F:Nat→Bool)(w:World)(h:PL w P D n ks F b) :
 Calls Tryz.prog 25 #[.pointer (some ⟨P,0,none⟩)] w fun e w'=>e = .returned (.int .i64 (cnt F n:Nat))∧w'=w:=by
 have HS:=hid (PN P n F _ _ w h.sp)
 clear h
 go_enter Tryz.func25,Tryz.ntmps25
 go_wp2_with fail
 refine HS.out.mono ?_
 rintro e w2 ⟨rfl,rfl⟩
 clear HS
 go_wp2_with fail
 go_ret
 exact ⟨rfl,rfl⟩
def zT:List Value := .int .u32 0::(List.replicate 64 (.int .u64 0)++[.int .u64 0])
theorem UE (parts:List (Nat×Value)):Tryz.prog.built 110 parts=Instr.fill (#[(0,1),(1,64),(65,65),(130,1)][·]?) (Value.pointer none::(List.replicate 64 (Value.int .u8 0)++zT)).toArray parts:=by kernel_rfl
theorem YO (x:Value)(hx:x.cells=#[x])(k Z R:List Value)(hk:k.length=64)(hz:Z.length=64)(hR:R.length=66) :
 Instr.fill (#[(0,1),(1,64),(65,65),(130,1)][·]?) (Value.pointer none::(Z++R)).toArray [(0,x),(1,.agg k.toArray)]=some (x::(k++R)).toArray:=by
 rw [fU _ _ (x::(Z++R)).toArray #[x] x 0 0 1 _ hx rfl rfl (by simp) (fun i=>by
  cases i with
  | zero=>simp
  | succ i=>simp)]
 rw [fU _ _ (x::(k++R)).toArray k.toArray (.agg k.toArray) 1 1 64 _ rfl rfl (by simp [hk]) (by simp [hk,hz,hR]) (fun i=>by
  simp only [List.getElem?_toArray,List.size_toArray,hk]
  cases i with
  | zero=>simp
  | succ i =>
    simp only [List.getElem?_cons_succ]
    by_cases h:i<64
    ·rw [if_pos (by omega),List.getElem?_append_left (by omega),Nat.add_sub_cancel]
    ·rw [if_neg (by omega),List.getElem?_append_right (by omega),List.getElem?_append_right (by omega),hk,hz])]
 rfl
theorem UF (D:Nat)(ks:bY)(hk:ks.length=64)(W:World):(Instr.build 110 #[(0,.pointer (some ⟨D,0,none⟩)),(1,.agg (aG ks))]).run Tryz.prog W = .ok (.agg (kD D 0 ks (fun _=>false) 0).toArray) W:=by
 refine run_build W 110 _ _ ?_
 rw [UE]
 have e:kD D 0 ks (fun _=>false) 0=Value.pointer (some ⟨D,0,none⟩)::((ks.map fun b=>Value.int .u8 (yv b))++zT):=by
  unfold kD lH zT
  rw [uS]
  simp
 rw [e]
 exact YO _ rfl _ _ _ (by simp [hk]) (by simp) (by simp [zT])
theorem aiu {w:World}{S n:Nat}{F:Nat→Bool}(h:SP w S n F):w.heap[S]? = some (.cells (Value.int .u32 (n:Int)::aZ F).toArray 108 (0,0)):=h.arr
theorem UG (n:Nat)(F:Nat→Bool):(Tryz.prog.info? 108).map (·.size)=some (Value.int .u32 (n:Int)::aZ F).toArray.size:=by
 rw [show (Tryz.prog.info? 108).map (·.size)=some 65 by kernel_rfl,List.size_toArray,List.length_cons,aQ]
theorem YP (D gl bm n:Nat)(vw:Value)(V:bY)(ws:bW)(lim:Int)(dn:Bool)(ks:bY)(w:World)(h:PD w D gl bm n vw V ws lim dn)(hk:ks.length=64)(h0:16≤n)(h1:n≤4096) :
 Calls Tryz.prog 18 #[.pointer (some ⟨D,0,none⟩),.agg (aG ks)] w fun e w'=>∃ P,w.heap.size≤P∧e = .returned (.tuple #[.pointer (some ⟨P,0,none⟩),.int .i64 0])∧PL w' P D n ks (dE n) 0∧Below w.heap.size w w':=by
 have Ha:=hid (UF D ks hk)
 have SK:=hid (wR ks hk)
 obtain ⟨hA0,hP0,hsz,hb0⟩:=qR w (.cells (aG ks) 60) (.cells (kD D 0 ks (fun _=>false) 0).toArray 110)
 have HK:=hid hk
 have KA:=hid ((hid (heap_alloc_new w (.cells (aG ks) 60))).out)
 have wY:=hid hP0
 have jM:=hid hsz
 have HB0:=hid hb0
 have HN:=hid (And.intro h0 h1)
 have HD:=hid (fun (W:World) (hb:Below w.heap.size w W)=>rG D gl bm n vw V ws lim dn W (h.below hb))
 have HS:=hid (fun (W:World)=>Xu n W h0 h1)
 have SZ:=hid (UG n (dE n))
 have HL:=hid (vN D ks hk)
 have HR:=hid (show (kD D 0 ks (fun _=>false) 0)=lH D ks++((Value.int .u32 ((0:Nat):Int)::aZ (fun _=>false))++[.int .u64 ((0:Nat):Int)]) by simp [kD])
 have ONE:=hid (show (Value.int .u32 (n:Int)::aZ (dE n)).toArray.all (·.oneCell')=true from all_oneCell_toArray (by
  intro v hv
  rcases List.mem_cons.1 hv with rfl | hv
  ·rfl
  ·exact lY _ v hv))
 clear hA0 hP0 hsz hb0 h hk h0 h1
 generalize JO:(kD D 0 ks (fun _=>false) 0).toArray=PR at *
 generalize hKS:aG ks=KS at *
 have Af:=hid JO
 clear JO hKS
 go_enter Tryz.func18,Tryz.ntmps18
 go_wp2_with (first
  | (with_reducible refine wpList_load_row (o:=⟨some 12,_,_,_,_,_⟩) rfl 60 _ rfl w.heap.size rfl 60 KS (0,0) _ KA.out Tryz.underlying60 rfl SK.out ?_)
  | (with_reducible refine bF (o:=⟨some 13,_,_,_,_,_⟩) rfl 110 _ rfl #[(0,.pointer (some ⟨D,0,none⟩)),(1,.agg KS)] (by simp [Act.eval,Act.put]) (.agg PR) (Ha.out _) ?_))
 refine (HD.out _ HB0.out).mono ?_
 rintro e w2 ⟨rfl,rfl⟩
 clear HD Ha KA SK
 generalize (w.alloc (Obj.cells KS 60)).alloc (Obj.cells PR 110)=w2 at *
 go_wp2_with fail
 refine (HS.out w2).mono ?_
 rintro e w3 ⟨rfl,hsp,hb3⟩
 have hrow:=aiu hsp
 have xe:=hid ((hb3.block (w.heap.size+1) (by rw [jM.out]; omega)).trans wY.out)
 have HB3:=hid (HB0.out.trans (hb3.mono HB0.out.size))
 obtain ⟨R,hR⟩:∃ R,(Value.int .u32 (n:Int)::aZ (dE n)).toArray=R:=⟨_,rfl⟩
 rw [hR] at hrow SZ ONE
 have mD:=hid hrow
 have hs3:w3.heap[w.heap.size+1]? = some (.cells (lH D ks++((Value.int .u32 ((0:Nat):Int)::aZ (fun _=>false))++[Value.int .u64 ((0:Nat):Int)])).toArray 110 (0,0)):=by rw [← HR.out,Af.out]; exact xe.out
 obtain ⟨q1,q2⟩:=tV (Value.int .u32 (n:Int)::aZ (dE n)) (Value.int .u32 ((0:Nat):Int)::aZ (fun _=>false)) (lH D ks) [Value.int .u64 ((0:Nat):Int)] w3 65 HL.out (by simp [aQ]) hs3
 have TH:=hid (show w3.there (w.heap.size+1) 65 R.size from fun j hj=>by
  rw [← hR,List.size_toArray,List.length_cons,aQ] at hj
  refine ⟨?_,frozen_of_row w3 _ _ _ _ hs3⟩
  rw [cell_of_row w3 _ _ _ _ _ hs3,List.getElem?_toArray,List.getElem?_append_right (by rw [HL.out]; omega),HL.out,Nat.add_sub_cancel_left,List.getElem?_append_left (by rw [List.length_cons,aQ]; omega)]
  rw [List.getElem?_eq_getElem (by rw [List.length_cons,aQ]; omega)]
  rfl)
 have ji:=hid (show PL (w3.setCells (w.heap.size+1) 65 R.toList) (w.heap.size+1) D n ks (dE n) 0∧Below w.heap.size w (w3.setCells (w.heap.size+1) 65 R.toList) from by
  rw [← hR]
  refine ⟨⟨⟨?_,HL.out,HN.out.1,HN.out.2,fun a ha=>by unfold dE at ha; simpa using ha⟩,HK.out⟩, ?_⟩
  ·unfold SB
   rw [show (lH D ks++[Value.int .u32 (n:Int)])++(aZ (dE n)++[.int .u64 ((0:Nat):Int)])=lH D ks++((Value.int .u32 (n:Int)::aZ (dE n))++[.int .u64 ((0:Nat):Int)]) by simp]
   exact q1
  ·exact HB3.out.trans (q2.bel _ (by omega)))
 clear hsp hb3 hrow hR q1 q2 hs3 wY HB0 HS xe HR Af
 generalize hX:w2.heap.size=X at *
 clear hX
 go_wp2_with (first
  | (with_reducible refine wpList_load_row (o:=⟨some 26,_,_,_,_,_⟩) rfl 108 _ rfl X rfl 108 R (0,0) _ mD.out Tryz.underlying108 rfl SZ.out ?_)
  | (with_reducible refine wpList_store_mid (op:=⟨none,.store _ (.tmp 28) _,_,_,_,_⟩) rfl 108 _ _ rfl (w.heap.size+1) 65 R rfl rfl TH.out SZ.out ONE.out ?_))
 go_ret2
 exact ⟨w.heap.size+1,by omega,rfl,ji.out.1,ji.out.2⟩
end Go.Proofs.YtljjcbmkbmloaaaGreatDoor
