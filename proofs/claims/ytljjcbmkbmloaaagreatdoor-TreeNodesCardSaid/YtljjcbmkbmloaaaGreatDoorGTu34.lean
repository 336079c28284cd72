import Derived.Test.YtljjcbmkbmloaaaGreatDoorGTu28
import Derived.Test.YtljjcbmkbmloaaaGreatDoorGTu30
import Derived.Test.YtljjcbmkbmloaaaGreatDoorGTu33
import Derived.Test.YtljjcbmkbmloaaaGreatDoorGTuA
namespace Go.Proofs.YtljjcbmkbmloaaaGreatDoor
set_option maxHeartbeats 3200000
set_option maxRecDepth 100000
set_option linter.unusedVariables false
open Lib (hid)
open Go.RowKit
def lQ (D:Nat)(ks:bY):List Value := .pointer (some ⟨D,0,none⟩)::ks.map fun b=>Value.int .u8 (yv b)
theorem vY (D:Nat)(ks:bY)(h:ks.length=64):(lQ D ks).length=65:=by simp [lQ,h]
def kH (D n:Nat)(ks:bY)(F:Nat→Bool)(b:Nat):List Value:=(lQ D ks++[.int .u32 (n:Int)])++(bQ F++[.int .u64 (b:Int)])
theorem GY (D n:Nat)(ks:bY)(F:Nat→Bool)(b:Nat)(h:ks.length=64):(kH D n ks F b).length=131:=by
 unfold kH;rw [List.length_append,List.length_append,List.length_append,vY D ks h,aZ]; rfl
structure PL (w:World)(P D n:Nat)(ks:bY)(F:Nat→Bool)(b:Nat):Prop where
 sp:SG w P n F (lQ D ks) [.int .u64 (b:Int)]
 kl:ks.length=64
section
variable {w w':World} {P D n b:Nat} {ks:bY} {F:Nat→Bool}
theorem PL.row (h:PL w P D n ks F b):w.heap[P]? = some (.cells (kH D n ks F b).toArray 110 (0,0)):=h.sp.arr
theorem PL.lt (h:PL w P D n ks F b):P<w.heap.size:=h.sp.arr.lt
theorem PL.touch {l:List Nat}(h:PL w P D n ks F b)(q:Touch l w w')(hb:P ∉ l):PL w' P D n ks F b:=⟨h.sp.touch q hb,h.kl⟩
theorem PL.below (h:PL w P D n ks F b)(q:Below w.heap.size w w'):PL w' P D n ks F b:=⟨h.sp.below q,h.kl⟩
theorem PL.dev (h:PL w P D n ks F b):w.cell? ⟨P,0,none⟩=some (.pointer (some ⟨D,0,none⟩)):=by rw [cell_of_row w P _ _ _ _ h.row]; rfl
theorem PL.free (h:PL w P D n ks F b)(k:Nat):w.frozen? ⟨P,k,none⟩=false:=frozen_of_row w P k _ _ h.row
theorem PL.keys (h:PL w P D n ks F b):w.rangeAt P 1 (aF ks).toList:=by
 intro j v hv;have hj:j<(aF ks).toList.length:=(List.getElem?_eq_some_iff.1 hv).1;have hj2:j<ks.length:=by simpa [aF] using hj
 rw [cell_of_row w P _ _ _ _ h.row,List.getElem?_toArray];unfold kH;rw [List.getElem?_append_left (by rw [h.sp.ZZ]; have:=h.kl; omega),List.getElem?_append_left (by rw [h.sp.pl]; have:=h.kl; omega)];unfold lQ;rw [Nat.add_comm,List.getElem?_cons_succ];exact hv
theorem PL.birth (h:PL w P D n ks F b):w.cell? ⟨P,130,none⟩=some (.int .u64 (b:Int)):=by
 rw [cell_of_row w P _ _ _ _ h.row,List.getElem?_toArray];unfold kH;rw [List.getElem?_append_right (by rw [h.sp.ZZ]; decide),h.sp.ZZ,List.getElem?_append_right (by rw [aZ]; decide),aZ]; rfl
theorem PL.ap5 (h:PL w P D n ks F b)(x:Nat):PL (w.setCell ⟨P,130,none⟩ (.int .u64 (x:Int))) P D n ks F x:=by
 refine ⟨⟨?_,h.sp.pl,h.sp.lo,h.sp.hi,h.sp.own⟩,h.kl⟩;unfold SB;rw [heap_setCell_same w P _ _ _ _ h.sp.arr];congr 2;rw [List.setIfInBounds_toArray,List.set_append_right _ _ (by rw [h.sp.ZZ]; decide),h.sp.ZZ,List.set_append_right _ _ (by rw [aZ]; decide),aZ]; rfl
end
theorem UW (P D n b x:Nat)(ks:bY)(F:Nat→Bool)(w:World)(h:PL w P D n ks F b) :
 Calls Tryz.prog 32 #[.pointer (some ⟨P,0,none⟩),.int .u64 (x:Int)] w fun e w'=>e = .returned (.int .i64 (if x=0 then 2 else 0))∧PL w' P D n ks F (if x=0 then b else x)∧Touch [P] w w':=by
 have HH:=hid h
 by_cases hx:x=0
 ·subst hx
  rw [if_pos rfl,if_pos rfl];clear h;go_in;go_wp2_with fail;go_ret;exact ⟨rfl,HH.out,Touch.refl _ _⟩
 ·rw [if_neg hx,if_neg hx]
  have hc:=h.birth;have hf:=h.free 130;have x0:((x:Int) == 0)=false:=by simp; omega
  have HS:=hid (show PL (w.setCell ⟨P,130,none⟩ (.int .u64 (x:Int))) P D n ks F x∧Touch [P] w (w.setCell ⟨P,130,none⟩ (.int .u64 (x:Int))) from ⟨h.ap5 x,Touch.dC ((Only.refl P w).setCell _ _) (by simp)⟩);clear h hx;go_in;go_wp2_with fail;go_ret;exact ⟨rfl,HS.out.1,HS.out.2⟩
theorem UX (P D n b:Nat)(ks:bY)(F:Nat→Bool)(w:World)(h:PL w P D n ks F b) :
 Calls Tryz.prog 25 #[.pointer (some ⟨P,0,none⟩)] w fun e w'=>e = .returned (.int .i64 (cnt F n:Nat))∧w'=w:=by
 have HS:=hid (Qh P n F _ _ w h.sp)
 clear h
 go_in
 go_wp2_with fail
 refine HS.out.mono ?_
 rintro e w2 ⟨rfl,rfl⟩
 clear HS
 go_wp2_with fail
 go_ret
 exact ⟨rfl,rfl⟩
def zX:List Value := .int .u32 0::(List.replicate 64 (.int .u64 0)++[.int .u64 0])
theorem UY (parts:List (Nat×Value)):Tryz.prog.built 110 parts=Instr.fill (#[(0,1),(1,64),(65,65),(130,1)][·]?) (Value.pointer none::(List.replicate 64 (Value.int .u8 0)++zX)).toArray parts:=by kernel_rfl
theorem Zd (x:Value)(hx:x.cells=#[x])(k Z R:List Value)(hk:k.length=64)(hz:Z.length=64)(hR:R.length=66) :
 Instr.fill (#[(0,1),(1,64),(65,65),(130,1)][·]?) (Value.pointer none::(Z++R)).toArray [(0,x),(1,.agg k.toArray)]=some (x::(k++R)).toArray:=by
 rw [gq _ _ (x::(Z++R)).toArray #[x] x 0 0 1 _ hx rfl rfl (by simp) (fun i=>by
  cases i with
  | zero=>simp
  | succ i=>simp)]
 rw [gq _ _ (x::(k++R)).toArray k.toArray (.agg k.toArray) 1 1 64 _ rfl rfl (by simp [hk]) (by simp [hk,hz,hR]) (fun i=>by
  simp only [List.getElem?_toArray,List.size_toArray,hk];cases i with
  | zero=>simp
  | succ i =>
    simp only [List.getElem?_cons_succ];by_cases h:i<64
    ·rw [if_pos (by omega),List.getElem?_append_left (by omega),Nat.add_sub_cancel]
    rw [if_neg (by omega),List.getElem?_append_right (by omega),List.getElem?_append_right (by omega),hk,hz])]
 rfl
theorem UZ (D:Nat)(ks:bY)(hk:ks.length=64)(W:World):(Instr.build 110 #[(0,.pointer (some ⟨D,0,none⟩)),(1,.agg (aF ks))]).run Tryz.prog W = .ok (.agg (kH D 0 ks (fun _=>false) 0).toArray) W:=by
 refine run_build W 110 _ _ ?_;rw [UY];have e:kH D 0 ks (fun _=>false) 0=Value.pointer (some ⟨D,0,none⟩)::((ks.map fun b=>Value.int .u8 (yv b))++zX):=by
  unfold kH lQ zX;rw [BV];simp
 rw [e];exact Zd _ rfl _ _ _ (by simp [hk]) (by simp) (by simp [zX])
theorem ai7 {w:World}{S n:Nat}{F:Nat→Bool}(h:SP w S n F):w.heap[S]? = some (.cells (Value.int .u32 (n:Int)::bQ F).toArray 108 (0,0)):=h.arr
theorem U0 (n:Nat)(F:Nat→Bool):(Tryz.prog.info? 108).map (·.size)=some (Value.int .u32 (n:Int)::bQ F).toArray.size:=by
 rw [show (Tryz.prog.info? 108).map (·.size)=some 65 by kernel_rfl,List.size_toArray,List.length_cons,aZ]
theorem JU (D gl bm n:Nat)(vw:Value)(V:bY)(ws:bW)(lim:Int)(dn:Bool)(ks:bY)(w:World)(h:PD w D gl bm n vw V ws lim dn)(hk:ks.length=64)(h0:16≤n)(h1:n≤4096) :
 Calls Tryz.prog 18 #[.pointer (some ⟨D,0,none⟩),.agg (aF ks)] w fun e w'=>∃ P,w.heap.size≤P∧e = .returned (.tuple #[.pointer (some ⟨P,0,none⟩),.int .i64 0])∧PL w' P D n ks (eX n) 0∧Below w.heap.size w w':=by
 have Iz:=hid (UZ D ks hk)
 have SK:=hid (xh ks hk)
 obtain ⟨hA0,hP0,hsz,hb0⟩:=rE w (.cells (aF ks) 60) (.cells (kH D 0 ks (fun _=>false) 0).toArray 110)
 have HK:=hid hk
 have KA:=hid ((hid (heap_alloc_new w (.cells (aF ks) 60))).out)
 have yS:=hid hP0
 have kG:=hid hsz
 have HB0:=hid hb0
 have HN:=hid (And.intro h0 h1)
 have HD:=hid (fun (W:World) (hb:Below w.heap.size w W)=>rY D gl bm n vw V ws lim dn W (h.below hb))
 have HS:=hid (fun (W:World)=>XW n W h0 h1)
 have SZ:=hid (U0 n (eX n))
 have HL:=hid (vY D ks hk)
 have HR:=hid (show (kH D 0 ks (fun _=>false) 0)=lQ D ks++((Value.int .u32 ((0:Nat):Int)::bQ (fun _=>false))++[.int .u64 ((0:Nat):Int)]) by simp [kH])
 have ONE:=hid (show (Value.int .u32 (n:Int)::bQ (eX n)).toArray.all (·.oneCell')=true from all_oneCell_toArray (by
  intro v hv
  rcases List.mem_cons.1 hv with rfl | hv
  ·rfl
  ·exact yf _ v hv))
 clear hA0 hP0 hsz hb0 h hk h0 h1
 generalize Ky:(kH D 0 ks (fun _=>false) 0).toArray=PR at *
 generalize hKS:aF ks=KS at *
 have Dq:=hid Ky
 clear Ky hKS
 go_in
 go_wp2_with (first
  | (with_reducible refine wpList_load_row (o:=⟨some 12,_,_,_,_,_⟩) rfl 60 _ rfl w.heap.size rfl 60 KS (0,0) _ KA.out Tryz.underlying60 rfl SK.out ?_)
  | (with_reducible refine bD (o:=⟨some 13,_,_,_,_,_⟩) rfl 110 _ rfl #[(0,.pointer (some ⟨D,0,none⟩)),(1,.agg KS)] (by simp [Act.eval,Act.put]) (.agg PR) (Iz.out _) ?_))
 refine (HD.out _ HB0.out).mono ?_
 rintro e w2 ⟨rfl,rfl⟩
 clear HD Iz KA SK
 generalize (w.alloc (Obj.cells KS 60)).alloc (Obj.cells PR 110)=w2 at *
 go_wp2_with fail
 refine (HS.out w2).mono ?_
 rintro e w3 ⟨rfl,hsp,hb3⟩
 have hrow:=ai7 hsp
 have xw:=hid ((hb3.block (w.heap.size+1) (by rw [kG.out]; omega)).trans yS.out)
 have HB3:=hid (HB0.out.trans (hb3.mono HB0.out.size))
 obtain ⟨R,hR⟩:∃ R,(Value.int .u32 (n:Int)::bQ (eX n)).toArray=R:=⟨_,rfl⟩
 rw [hR] at hrow SZ ONE
 have mP:=hid hrow
 have hs3:w3.heap[w.heap.size+1]? = some (.cells (lQ D ks++((Value.int .u32 ((0:Nat):Int)::bQ (fun _=>false))++[Value.int .u64 ((0:Nat):Int)])).toArray 110 (0,0)):=by rw [← HR.out,Dq.out]; exact xw.out
 obtain ⟨q1,q2⟩:=zV (Value.int .u32 (n:Int)::bQ (eX n)) (Value.int .u32 ((0:Nat):Int)::bQ (fun _=>false)) (lQ D ks) [Value.int .u64 ((0:Nat):Int)] w3 65 HL.out (by simp [aZ]) hs3
 have TH:=hid (show w3.there (w.heap.size+1) 65 R.size from fun j hj=>by
  rw [← hR,List.size_toArray,List.length_cons,aZ] at hj;refine ⟨?_,frozen_of_row w3 _ _ _ _ hs3⟩;rw [cell_of_row w3 _ _ _ _ _ hs3,List.getElem?_toArray,List.getElem?_append_right (by rw [HL.out]; omega),HL.out,Nat.add_sub_cancel_left,List.getElem?_append_left (by rw [List.length_cons,aZ]; omega)];rw [List.getElem?_eq_getElem (by rw [List.length_cons,aZ]; omega)];rfl)
 have jM:=hid (show PL (w3.setCells (w.heap.size+1) 65 R.toList) (w.heap.size+1) D n ks (eX n) 0∧Below w.heap.size w (w3.setCells (w.heap.size+1) 65 R.toList) from by
  rw [← hR];refine ⟨⟨⟨?_,HL.out,HN.out.1,HN.out.2,fun a ha=>by unfold eX at ha; simpa using ha⟩,HK.out⟩, ?_⟩
  ·unfold SB
   rw [show (lQ D ks++[Value.int .u32 (n:Int)])++(bQ (eX n)++[.int .u64 ((0:Nat):Int)])=lQ D ks++((Value.int .u32 (n:Int)::bQ (eX n))++[.int .u64 ((0:Nat):Int)]) by simp];exact q1
  exact HB3.out.trans (q2.bel _ (by omega)))
 clear hsp hb3 hrow hR q1 q2 hs3 yS HB0 HS xw HR Dq
 generalize hX:w2.heap.size=X at *
 clear hX
 go_wp2_with (first
  | (with_reducible refine wpList_load_row (o:=⟨some 26,_,_,_,_,_⟩) rfl 108 _ rfl X rfl 108 R (0,0) _ mP.out Tryz.underlying108 rfl SZ.out ?_)
  | (with_reducible refine wpList_store_mid (op:=⟨none,.store _ (.tmp 28) _,_,_,_,_⟩) rfl 108 _ _ rfl (w.heap.size+1) 65 R rfl rfl TH.out SZ.out ONE.out ?_))
 go_ret2
 exact ⟨w.heap.size+1,by omega,rfl,jM.out.1,jM.out.2⟩
end Go.Proofs.YtljjcbmkbmloaaaGreatDoor
