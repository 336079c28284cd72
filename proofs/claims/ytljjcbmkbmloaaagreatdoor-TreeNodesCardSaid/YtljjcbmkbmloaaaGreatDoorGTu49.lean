import Derived.Test.YtljjcbmkbmloaaaGreatDoorGTu48
import Derived.Test.YtljjcbmkbmloaaaGreatDoorGTuA
namespace Go.Proofs.YtljjcbmkbmloaaaGreatDoor
set_option maxHeartbeats 3200000
set_option maxRecDepth 100000
set_option linter.unusedVariables false
section
open Lib (hid)
open Go.ChangeShapes Go.WideShapes Go.ChangeAt Go.RowKit
def wu (w:World)(K:List bH)(e:Ending)(w':World):Prop:=∃ v,e = .returned (.tuple #[v,.bool true])∧sJ w' w.heap.size v K∧Below w.heap.size w w'
theorem ZE {f t k:ByteArray}(h:LV f t k):Op.bytesLess k.toList f.toList=false∧(t.toList=[]∨(t.toList == [])=false∧Op.bytesLess k.toList t.toList=true):=by
 refine ⟨h.1, ?_⟩;by_cases e:t.toList=[]
 ·exact .inl e
 refine .inr ⟨beq_eq_false_iff_ne.2 e, ?_⟩;rcases h.2 with h2 | h2
 ·exact absurd (by rw [h2,Lib.toList_data]; rfl) e
 exact h2
theorem ZF (LQ:ay→az→Prop)(P:Nat)(q:ay)(L:List bH)(f t:ByteArray)(n:Nat)(w:World)(hr:RD LQ w P)(hq:LQ q (dZ 0 L))(hl:L.length≤1000)(hne:L ≠ [])(hn:n≤200)(hs:∀ x ∈ L,LV f t x.1) :
 Calls Tryz.prog 22 #[.pointer (some ⟨P,0,none⟩),.agg (ag q).toArray,.string f,.string t,.int .i64 (n:Int)] w fun e w'=>wu w L e w':=by
 have nZ:=hid (show ∀ W,Below w.heap.size w W→Calls Tryz.prog 45 #[.pointer (some ⟨P,0,none⟩),.agg (ag q).toArray] W fun e w'=>∃ k v p,e = .returned (.tuple #[.agg #[.bool true,k,v,p],.int .i64 0])∧NR w' k v p (dZ 0 L)∧Below W.heap.size W w' from fun W hW=>hr W hW q _ hq)
 have HS:=hid hs
 have HL:=hid hl
 have HP:=hid (show 0<L.length from List.length_pos_iff.2 hne)
 have Bc:=hid (cZ q)
 have nI:(n:Int)≤200:=by omega
 obtain ⟨AR,hAR⟩:∃ z,(ag q).toArray=z:=⟨_,rfl⟩
 rw [hAR] at nZ Bc ⊢
 have h0:=ah w (.cells AR 51)
 have hb0:=aK w (.cells AR 51)
 have HB0:=hid hb0
 clear hr hq hs hl hne hn hAR hb0
 go_in
 go_wp2_with (first
  | (with_reducible refine wpList_load_row (o:=⟨some 25,_,_,_,_,_⟩) rfl 51 _ rfl w.heap.size rfl 51 AR (0,0) _ h0 Tryz.underlying51 rfl Bc.out ?_))
 refine (nZ.out _ HB0.out).mono ?_
 rintro e w2 ⟨k,v,p,rfl,hnr,hb2⟩
 have ajO:=hnr.below (aK w2 (.cells #[.bool true,k,v,p] 118))
 clear hnr
 obtain ⟨⟨ak,ck,rfl,hck,h1⟩,⟨av,cv,rfl,hcv,h2⟩,⟨ap,cp,rfl,h3⟩⟩:=ajO
 have e1:(dZ 0 L).ks.length=L.length:=List.length_map ..
 have e2:(dZ 0 L).vs.length=L.length:=List.length_map ..
 have e3:(dZ 0 L).ps.length=0:=rfl
 rw [e1,e2,e3] at h1 h2 ⊢
 obtain ⟨m,hM⟩:∃ m,L.length=m:=⟨_,rfl⟩
 have HM:=hid hM
 rw [hM] at h1 h2
 have H1:=hid h1
 have H2:=hid h2
 have HB3:=hid (aJ (aJ HB0.out hb2) (aK w2 (.cells #[.bool true,.slice ak m ck,.slice av m cv,.slice ap 0 cp] 118)))
 rw [hM]
 have mI:(m:Int)≤1000:=by have:=HL.out; omega
 clear h1 h2 h3 hM hck hcv e1 e2 e3 h0 hb2 nZ
 go_upto_region 2 with fail
 generalize hw3:World.alloc w2 (.cells #[.bool true,.slice ak m ck,.slice av m cv,.slice ap 0 cp] 118)=w3
 have hn3:=ah w2 (.cells #[.bool true,.slice ak m ck,.slice av m cv,.slice ap 0 cp] 118)
 rw [hw3] at HB3 hn3 H1 H2
 have Iw:=hid hn3
 have e0:=cell_of_row w3 w2.heap.size 0 _ _ _ hn3
 have e1:=cell_of_row w3 w2.heap.size 1 _ _ _ hn3
 generalize w2.heap.size=X at *
 clear hw3 hn3
 go_wp2_with fail
 clear e0 e1
 go_loopw [14,15,16,40] (fun v14 _ _ v40 wr=>∃ i:Nat,i≤m∧v40 = .int .i64 (i:Int)∧sJ wr w3.heap.size v14 (L.take i)∧Below w3.heap.size w3 wr) (fun _ _ _ v _=>m - (intOf v).toNat)
 case atStart=>exact ⟨0,Nat.zero_le _,rfl,wW _ _,Below.refl _ _⟩
 case round =>
  obtain ⟨i,hi,rfl,hkv,hb⟩:=hrel;have HB:=hid hb;obtain ⟨a0,c0,rfl,hc0⟩:=hkv.shape;have HK:=hid hkv;have hnr:=(hb.block X (lt_of_block Iw.out)).trans Iw.out;have e2:=cell_of_row wr X 2 _ _ _ hnr;clear hkv hc0 hnr;by_cases hlt:i<m
  ·obtain ⟨x,hx⟩:∃ x,L[i]? = some x:=⟨_,List.getElem?_eq_getElem (by rw [HM.out]; exact hlt)⟩
   obtain ⟨b1,o1,rfl,g1⟩:=H1.out i x.1 (by show (List.map (fun z:bH=>z.1) L)[i]? = _; rw [List.getElem?_map,hx]; rfl);obtain ⟨b2,o2,rfl,g2⟩:=H2.out i x.2 (by show (List.map (fun z:bH=>z.2) L)[i]? = _; rw [List.getElem?_map,hx]; rfl);have hix:=iK b1 o1 m ck i hlt;have hiv:=iK b2 o2 m cv i hlt;have k1:=(hb.cell (p:=⟨b1,o1+i,none⟩) (block_lt_of_cell g1)).trans g1;have k2:=(hb.cell (p:=⟨b2,o2+i,none⟩) (block_lt_of_cell g2)).trans g2;have bn:=hid hlt;have iI:(i:Int)<(m:Int):=by omega
   have i0:(0:Int)≤(i:Int):=by omega
   obtain ⟨s1,s2⟩:=ZE (HS.out x (List.mem_of_getElem? hx));have Aq:=hid (show L.take (i+1)=L.take i++[x] by rw [List.take_add_one,hx]; rfl);have KW:=hid (show (L.take i).length≤1000 by rw [List.length_take]; have:=HL.out; omega);have hbk:=wV x.1 x.2;have hli:=fun (u v:Value) (W:World)=>Gj u v W;have hb4:=aK wr (.cells #[.string x.1,.string x.2] 75);have D9:=hid (oM (M:=[x]) (HK.out.below hb4) (Nat.le_trans hb.size hb4.size) (.slice (some ⟨wr.heap.size,0,none⟩) 1 1) (.inr ⟨_,1,rfl,fun j y hy=>df (cs:=[.string x.1,.string x.2]) (ah wr _) j y hy⟩) (by have:=KW.out; simp only [List.length_cons,List.length_nil]; omega) 30);have HB4:=hid hb4;clear hi hlt hx g1 g2 hb hb4;rcases s2 with s2 | ⟨s2,s3⟩
   ·go_wp2_with (first
     | (at_builtin; obtain ⟨v3,w3',hr,ho3,hg3,_⟩:=D9.out; refine aS _ rfl _ _ 30 30 rfl _ _ rfl rfl hr ?_; have vO:=hid ho3; have HG3:=hid hg3; clear ho3 hg3 hr))
    exact ⟨⟨i+1,by have:=bn.out; omega,by go_num,by rw [Aq.out]; exact vO.out,kv_grown (HK.out.below HB4.out) HG3.out (aJ HB.out HB4.out)⟩,by simp only [intOf]; have:=bn.out; omega⟩
   go_wp2_with (first
    | (at_builtin; obtain ⟨v3,w3',hr,ho3,hg3,_⟩:=D9.out; refine aS _ rfl _ _ 30 30 rfl _ _ rfl rfl hr ?_; have vO:=hid ho3; have HG3:=hid hg3; clear ho3 hg3 hr))
   exact ⟨⟨i+1,by have:=bn.out; omega,by go_num,by rw [Aq.out]; exact vO.out,kv_grown (HK.out.below HB4.out) HG3.out (aJ HB.out HB4.out)⟩,by simp only [intOf]; have:=bn.out; omega⟩
  obtain rfl:i=m:=by omega
  have e:=HK.out;rw [show L.take i=L by rw [← HM.out,List.take_length]] at e ⊢;rw [HM.out] at e ⊢;have HE:=hid e;have mN:decide (0<i)=true:=decide_eq_true (by have:=HP.out; rw [HM.out] at this; exact this);clear hi hlt e2 e hb;go_wp2_with fail;go_ret2;exact ⟨_,rfl,HE.out.low HB3.out.size,aJ HB3.out HB.out⟩
theorem ajP {κ:Type}{W:κ→ByteArray→ByteArray→Prop}{L:List (bK κ)}{f t:ByteArray}(h:aP W L f t)(i:Nat)(hi:i<L.length):lo (oQ f L i) f=false∧(t=aY∨uB t L i=t∨lo (uB t L i) t=true):=by
 match L,h,hi with
 | x::r,h,hi =>
   obtain ⟨h1,_⟩:=iT r x f t h;constructor
   ·unfold oQ
    match i with
    | 0=>rw [if_pos rfl]; exact dP f
    | i+1 =>
      have hi':i<r.length:=by simpa using hi
      rw [if_neg (by omega)];simp only [List.getElem?_cons_succ,List.getElem?_eq_getElem hi',Option.map_some,Option.getD_some];exact jd (h1 _ (List.getElem_mem hi')).1
   unfold uB;cases hy:(x::r)[i+1]? with
   | none=>exact .inr (.inl rfl)
   | some y=>exact (h1 y (List.mem_of_getElem? (show r[i]? = some y by simpa using hy))).2.1.imp id .inr
theorem ZG {a b f t:ByteArray}(h:lo a f=false∧(t=aY∨b=t∨lo b t=true)):Op.bytesLess a.toList f.toList=false∧(t.toList=[]∨(t.toList == [])=false∧(Op.bytesLess b.toList t.toList=true∨Op.bytesLess b.toList t.toList=false∧(b.toList == t.toList)=true)):=by
 refine ⟨h.1, ?_⟩;by_cases e:t.toList=[]
 ·exact .inl e
 refine .inr ⟨beq_eq_false_iff_ne.2 e, ?_⟩;rcases h.2 with h2 | h2 | h2
 ·exact absurd (by rw [h2,Lib.toList_data]; rfl) e
 ·rw [h2]; exact .inr ⟨dP t,by simp⟩
 exact .inl h2
def Vo {d:Nat}(PL:List (ByteArray×ay×Pt d)):Its (d+1):=PL.map (fun x=>(x.1,aY,sK 0 x.2.1 x.2.2))
theorem Ri (LQ:ay→az→Prop)(P d:Nat)(q:ay)(PL:List (ByteArray×ay×Pt d))(f t:ByteArray)(n:Nat)(w:World)(hr:RD LQ w P)(hq:LQ q (dZ (d+1) PL))(hl:PL.length≤1000)(hn:n<200)(hsp:∀ i,i<PL.length→lo (oQ f (Vo PL) i) f=false∧(t=aY∨uB t (Vo PL) i=t∨lo (uB t (Vo PL) i) t=true))
 (hrec:∀ (W:World) i x,Below w.heap.size w W→PL[i]? = some x→Calls Tryz.prog 22 #[.pointer (some ⟨P,0,none⟩),.agg (ag x.2.1).toArray,.string (oQ f (Vo PL) i),.string (uB t (Vo PL) i),.int .i64 ((n+1:Nat):Int)] W fun e w'=>wu W (cont d (up d x.2.2)) e w')
 (hc:(cont (d+1) (Vo PL)).length≤100000) :
 Calls Tryz.prog 22 #[.pointer (some ⟨P,0,none⟩),.agg (ag q).toArray,.string f,.string t,.int .i64 (n:Int)] w fun e w'=>wu w (cont (d+1) (Vo PL)) e w':=by
 have nZ:=hid (show ∀ W,Below w.heap.size w W→Calls Tryz.prog 45 #[.pointer (some ⟨P,0,none⟩),.agg (ag q).toArray] W fun e w'=>∃ k v p,e = .returned (.tuple #[.agg #[.bool false,k,v,p],.int .i64 0])∧NR w' k v p (dZ (d+1) PL)∧Below W.heap.size W w' from fun W hW=>hr W hW q _ hq)
 have Vt:=hid hsp
 have HL:=hid hl
 have HRC:=hid hrec
 have HCT:=hid hc
 have Bc:=hid (cZ q)
 have nI:(n:Int)<200:=by omega
 obtain ⟨AR,hAR⟩:∃ z,(ag q).toArray=z:=⟨_,rfl⟩
 rw [hAR] at nZ Bc ⊢
 have h0:=ah w (.cells AR 51)
 have hb0:=aK w (.cells AR 51)
 have HB0:=hid hb0
 clear hr hq hsp hl hn hAR hb0 hrec hc
 obtain ⟨U,hU⟩:∃ U:Its (d+1),Vo PL=U:=⟨_,rfl⟩
 have HU:=hid (show ∀ (i:Nat) (x:ByteArray×ay×Pt d),PL[i]? = some x→U[i]? = some (x.1,aY,sK 0 x.2.1 x.2.2) from fun i x hx=>by rw [← hU,Vo,List.getElem?_map,hx]; rfl)
 have HUL:=hid (show U.length=PL.length by rw [← hU,Vo,List.length_map])
 rw [hU] at Vt HRC HCT ⊢
 clear hU
 go_in
 go_wp2_with (first
  | (with_reducible refine wpList_load_row (o:=⟨some 25,_,_,_,_,_⟩) rfl 51 _ rfl w.heap.size rfl 51 AR (0,0) _ h0 Tryz.underlying51 rfl Bc.out ?_))
 refine (nZ.out _ HB0.out).mono ?_
 rintro e w2 ⟨k,v,p,rfl,hnr,hb2⟩
 have ajO:=hnr.below (aK w2 (.cells #[.bool false,k,v,p] 118))
 clear hnr
 obtain ⟨⟨ak,ck,rfl,hck,h1⟩,⟨av,cv,rfl,hcv,h2⟩,⟨ap,cp,rfl,h3⟩⟩:=ajO
 have e1:(dZ (d+1) PL).ks=(PL.map (·.1)).tail:=rfl
 have e2:(dZ (d+1) PL).vs.length=0:=rfl
 have e3:(dZ (d+1) PL).ps=PL.map (·.2.1):=rfl
 rw [e1] at h1 h2 h3 ⊢
 rw [e2] at h1 h3 ⊢
 rw [e3] at h1 h3 ⊢
 rw [List.length_map] at h1 h3 ⊢
 obtain ⟨m,hM⟩:∃ m,PL.length=m:=⟨_,rfl⟩
 obtain ⟨nk,hNK⟩:∃ nk,((PL.map (·.1)).tail).length=nk:=⟨_,rfl⟩
 have HNK:=hid (show nk=m - 1 by rw [← hNK,List.length_tail,List.length_map,hM])
 have HM:=hid hM
 rw [hM,hNK] at h1 h3
 have H1:=hid h1
 have H3:=hid h3
 have HB3:=hid (aJ (aJ HB0.out hb2) (aK w2 (.cells #[.bool false,.slice ak nk ck,.slice av 0 cv,.slice ap m cp] 118)))
 rw [hM,hNK]
 have mI:(m:Int)≤1000:=by have:=HL.out; omega
 clear h1 h2 h3 hM hNK hck hcv e1 e2 e3 h0 hb2 nZ
 go_upto_region 2 with fail
 generalize hw3:World.alloc w2 (.cells #[.bool false,.slice ak nk ck,.slice av 0 cv,.slice ap m cp] 118)=w3
 have hn3:=ah w2 (.cells #[.bool false,.slice ak nk ck,.slice av 0 cv,.slice ap m cp] 118)
 rw [hw3] at HB3 hn3 H1 H3
 have Iw:=hid hn3
 have e0:=cell_of_row w3 w2.heap.size 0 _ _ _ hn3
 have e3:=cell_of_row w3 w2.heap.size 3 _ _ _ hn3
 generalize w2.heap.size=X at *
 clear hw3 hn3
 go_wp2_with fail
 clear e0 e3
 go_loopw [14,17,18,19,20,21,22,75] (fun v14 _ _ _ _ _ _ v75 wr=>∃ i:Nat,i≤m∧v75 = .int .i64 (i:Int)∧sJ wr w3.heap.size v14 (cont (d+1) (U.take i))∧Below w3.heap.size w3 wr) (fun _ _ _ _ _ _ _ v _=>m - (intOf v).toNat)
 case atStart=>exact ⟨0,Nat.zero_le _,rfl,wW _ _,Below.refl _ _⟩
 case round =>
  obtain ⟨i,hi,rfl,hkv,hb⟩:=hrel;have HB:=hid hb;have HK:=hid hkv;clear hkv;by_cases hlt:i<m
  ·obtain ⟨x,hx⟩:∃ x,PL[i]? = some x:=⟨_,List.getElem?_eq_getElem (by rw [HM.out]; exact hlt)⟩
   obtain ⟨b1,o1,rfl,g1⟩:=H3.out i x.2.1 (by rw [List.getElem?_map,hx]; rfl);have hix:=rF b1 o1 m cp i hlt;have lW:=hid (dm g1 hb);have bn:=hid hlt;have iI:(i:Int)<(m:Int):=by omega
   have i0:(0:Int)≤(i:Int):=by omega
   have HRX:=hid (fun (W:World) (hW:Below w3.heap.size w3 W)=>HRC.out W i x (aJ HB3.out hW) hx);have HFX:=hid (ZG (Vt.out i (by rw [HM.out]; exact hlt)));have Aq:=hid (show cont (d+1) (U.take (i+1))=cont (d+1) (U.take i)++cont d (up d x.2.2) by rw [bM U i _ (HU.out i x hx),dM,fP,yH]);have Ui:=hid (show (cont (d+1) (U.take i)).length+(cont d (up d x.2.2)).length≤100000 by
    rw [← List.length_append,← Aq.out];have e:cont (d+1) U=cont (d+1) (U.take (i+1))++cont (d+1) (U.drop (i+1)):=by rw [← dM,List.take_append_drop]
    have h:=HCT.out;rw [e,List.length_append] at h;omega)
   have HSF:=hid (show i=0→oQ f U i=f from fun h=>by unfold oQ; rw [if_pos h]);have HSG:=hid (show ∀ j,i=j+1→oQ f U i=x.1∧∃ b off,ak=some ⟨b,off,none⟩∧w3.cell? ⟨b,off+j,none⟩=some (.string x.1) from fun j hj=>by
    refine ⟨by unfold oQ; rw [if_neg (by omega),HU.out i x hx]; rfl,H1.out j x.1 (MF j x (by rw [← hj]; exact hx))⟩)
   have HST:=hid (show ¬ i+1<m→uB t U i=t from fun h=>by unfold uB; rw [List.getElem?_eq_none (by rw [HUL.out,HM.out]; omega)]; rfl);have HSU:=hid (show i+1<m→∃ b off,ak=some ⟨b,off,none⟩∧w3.cell? ⟨b,off+i,none⟩=some (.string (uB t U i)) from fun h=>by
    obtain ⟨y,hy⟩:∃ y,PL[i+1]? = some y:=⟨_,List.getElem?_eq_getElem (by rw [HM.out]; exact h)⟩
    have e:uB t U i=y.1:=by unfold uB; rw [HU.out (i+1) y hy]; rfl
    rw [e];exact H1.out i y.1 (MF i y hy))
   obtain ⟨A,hA⟩:∃ z,oQ f U i=z:=⟨_,rfl⟩
   obtain ⟨B,hB⟩:∃ z,uB t U i=z:=⟨_,rfl⟩
   rw [hA] at HRX HFX HSF HSG;rw [hB] at HRX HFX HST HSU;clear hA hB;have DY:=hid (dL x.2.1);have ajQ:=hid (cZ x.2.1);have EW:=hid (show (ag ai).toArray.size=(ag x.2.1).toArray.size by simp [aO]);have WO:=hid (aW x.2.1);have hzp:=dF;obtain ⟨ZA,VR⟩:∃ ZA,(ag ai).toArray=ZA:=⟨_,rfl⟩
   rw [VR] at hzp EW;clear hi hlt hx g1 VR hb Vt HRC;go_upto_region 17 with (first
    | (with_reducible refine wpList_load_mid (op:=⟨some 79,_,_,_,_,_⟩) rfl 51 _ rfl b1 (o1+i * 34) rfl (ag x.2.1) _ lW.out Tryz.underlying51 rfl DY.out ?_)
    | (with_reducible refine wpList_store_row (o:=⟨none,.store _ (.tmp 18) _,_,_,_,_⟩) rfl 51 _ _ rfl wr.heap.size (ag x.2.1).toArray rfl rfl 51 ZA (heap_alloc_new wr _) ajQ.out EW.out WO.out ?_))
   clear hix hzp;obtain ⟨h7,hb7⟩:=vG wr ZA (ag x.2.1).toArray;generalize World.setRow _ wr.heap.size _=w7 at *;have H7:=hid h7;have D6:=hid (aJ HB.out hb7);have HK7:=hid (HK.out.below hb7);have HN7:=hid ((D6.out.block X (lt_of_block Iw.out)).trans Iw.out);clear h7 hb7 lW DY EW WO;go_upto_if 83 with fail
   go_cut [19] from 82 to 89 (fun v19 wc=>v19 = .string A∧wc=w7)
   case first =>
    rcases Nat.eq_zero_or_pos i with hz | hz
    ·have hz1:¬ ((0:Int)<(i:Int)):=by omega
     have HZ:=hid (HSF.out hz);clear hz;go_wp2_with fail;go_meet;exact ⟨by rw [HZ.out],rfl⟩
    obtain ⟨j,hj⟩:∃ j,i=j+1:=⟨i - 1,by omega⟩
    obtain ⟨hA,b,off,hak,gk⟩:=HSG.out j hj;subst hak;have k2:=(D6.out.cell (p:=⟨b,off+j,none⟩) (block_lt_of_cell gk)).trans gk;have hik:=iK b off nk ck j (by have:=HNK.out; have:=bn.out; omega);have hwj:(i:Int) - 1=(j:Int):=by omega
    have hz1:(0:Int)<(i:Int):=by omega
    have e1:=cell_of_row w7 X 1 _ _ _ HN7.out;rw [← hA] at k2;clear hz hj gk hA;go_wp2_with fail;go_meet;exact ⟨rfl,rfl⟩
   case rest =>
    obtain ⟨rfl,rfl⟩:=hcut;clear HSF HSG;have e1:=cell_of_row wc X 1 _ _ _ HN7.out;go_upto_if 94 with fail
    clear e1;go_cut [20] from 90 to 99 (fun v20 w9=>v20 = .string B∧w9=wc)
    case first =>
     by_cases hz:i+1<m
     ·obtain ⟨b,off,hak,gk⟩:=HSU.out hz
      subst hak;have k2:=(D6.out.cell (p:=⟨b,off+i,none⟩) (block_lt_of_cell gk)).trans gk;have hlk:i<nk:=by have:=HNK.out; omega
      have hik:=iK b off nk ck i hlk;have hz1:(i:Int)<(nk:Int):=by omega
      have e1:=cell_of_row wc X 1 _ _ _ HN7.out;clear hz gk hlk;go_wp2_with fail;go_meet;exact ⟨rfl,rfl⟩
     have HZ:=hid (HST.out hz);have hz1:¬ ((i:Int)<(nk:Int)):=by have:=HNK.out; have:=bn.out; omega
     clear hz;go_wp2_with fail;go_meet;exact ⟨by rw [HZ.out],rfl⟩
    case rest =>
     obtain ⟨rfl,rfl⟩:=hcut;clear HST HSU;go_upto_region 22 with fail
     go_cut [111] from 100 to 111 (fun aqY w9=>aqY = .bool false∧w9=wc)
     case first =>
      obtain ⟨s1,s2⟩:=HFX.out;rcases s2 with s2 | ⟨s2,s3 | ⟨s3,s4⟩⟩
      ·go_wp2_with fail
       go_meet;exact ⟨rfl,rfl⟩
      ·go_wp2_with fail
       go_meet;exact ⟨rfl,rfl⟩
      go_wp2_with fail;go_meet;exact ⟨rfl,rfl⟩
     case rest =>
      obtain ⟨rfl,rfl⟩:=hcut;clear HFX;have HCA:=hid (HRX.out wc D6.out);obtain ⟨AX,hAX⟩:∃ z,(ag x.2.1).toArray=z:=⟨_,rfl⟩
      rw [hAX] at HCA H7 ajQ;rw [show ((n+1:Nat):Int)=(n:Int)+1 from rfl] at HCA;clear hAX HRX;go_wp2_with (first
       | (with_reducible refine wpList_load_row (o:=⟨some 114,_,_,_,_,_⟩) rfl 51 _ rfl wr.heap.size rfl 51 AX (0,0) _ H7.out Tryz.underlying51 rfl ajQ.out ?_))
      refine HCA.out.mono ?_;rintro e w10 ⟨v10,rfl,hv,Dx⟩;have HV:=hid hv;obtain ⟨a10,c10,rfl,_⟩:=hv.shape;have ajR:=hid (HK7.out.below Dx);have aoa:=hid (aJ D6.out Dx);have D9:=hid (oM ajR.out aoa.out.size _ (D8 HV.out) (by have:=Ui.out; omega) 30);obtain ⟨a14,c14,rfl,_⟩:=ajR.out.shape;clear hv Dx HCA;go_wp2_with (first
       | (at_builtin; obtain ⟨v3,w3',hr,ho3,hg3,_⟩:=D9.out; refine aS _ rfl _ _ 30 30 rfl _ _ rfl rfl hr ?_; have vO:=hid ho3; have HG3:=hid hg3; clear ho3 hg3 hr))
      go_roundw
      case rel=>exact ⟨i+1,by have:=bn.out; omega,by go_num,by rw [Aq.out]; exact vO.out,kv_grown ajR.out HG3.out aoa.out⟩
      case measure=>simp [intOf]; have:=bn.out; omega
  obtain rfl:i=m:=by omega
  have e:=HK.out;rw [show U.take i=U from List.take_of_length_le (by rw [HUL.out,HM.out]; exact Nat.le_refl _)] at e;have HE:=hid e;clear hi hlt e hb;go_wp2_with fail;go_ret2;exact ⟨_,rfl,HE.out.low HB3.out.size,aJ HB3.out HB.out⟩
end
section
open Go.ChangeShapes Go.WideShapes Go.ChangeAt Go.RowKit
theorem WW {d:Nat}:∀ (L:Its (d+1)) (x:bK (Kd (d+1))),x ∈ L→(cont d (its x.2.2)).length≤(cont (d+1) L).length
 | [],x,h=>by cases h
 | y::r,x,h=>by
   rw [gZ,List.length_append,fP];rcases List.mem_cons.1 h with rfl | h
   ·omega
   have:=WW r x h;omega
theorem Hw (LQ:ay→az→Prop)(P:Nat):∀ (d:Nat) (q:ay) (X:Pt d) (f t:ByteArray) (n:Nat) (w:World),RD LQ w P→Lies LQ d q X→lX d (up d X) f t→qZ d (up d X)→n+d≤200→(cont d (up d X)).length≤100000 →
 Calls Tryz.prog 22 #[.pointer (some ⟨P,0,none⟩),.agg (ag q).toArray,.string f,.string t,.int .i64 (n:Int)] w fun e w'=>wu w (cont d (up d X)) e w'
 | 0,q,X,f,t,n,w,hr,hl,hw,ho,hn,hc=>by
   have e:cont 0 (up 0 X)=(show List bH from X):=by
    show List.map _ (List.map _ (show List bH from X))=_;rw [List.map_map];exact List.map_id _
   have hlen:(show List bH from X).length≤1000:=by
    have h:=ho.len;have h2:(up 0 X).length=(show List bH from X).length:=List.length_map ..;omega
   rw [e];refine ZF LQ P q X f t n w hr hl.reads hlen (fun h=>ho.some ?_) (by omega) (fun x hx=>?_)
   ·show List.map _ (show List bH from X)=[]
    rw [show (show List bH from X)=[] from h];rfl
   exact gQ.span (show gQ (up 0 X) f t from hw) (x.1,x.2,()) (List.mem_map.2 ⟨x,hx,rfl⟩)
 | d+1,q,X,f,t,n,w,hr,hl,hw,ho,hn,hc=>by
   have e:up (d+1) X=Vo (show List (ByteArray×ay×Pt d) from X):=wZ d X;rw [e] at hw ho hc ⊢;have hlen:(show List (ByteArray×ay×Pt d) from X).length=(Vo (show List (ByteArray×ay×Pt d) from X)).length:=(List.length_map ..).symm;refine Ri LQ P d q X f t n w hr hl.reads (by have h:=ho.len; rw [← hlen] at h; exact Nat.le_trans h (by decide)) (by omega) (fun i hi=>ajP (show aP (l7 d) _ f t from hw) i (by rw [← hlen]; exact hi)) (fun W i x hW hx=>?_) hc;have hm:x ∈ (show List (ByteArray×ay×Pt d) from X):=List.mem_of_getElem? hx;have hat:=wQ (W:=l7 d) (Vo (show List (ByteArray×ay×Pt d) from X)) f t i (x.1,aY,sK 0 x.2.1 x.2.2) hw (by rw [Vo,List.getElem?_map]; show Option.map _ ((show List (ByteArray×ay×Pt d) from X)[i]?)=_; rw [show (show List (ByteArray×ay×Pt d) from X)[i]? = some x from hx]; rfl);have hcl:=WW (Vo (show List (ByteArray×ay×Pt d) from X)) (x.1,aY,sK 0 x.2.1 x.2.2) (List.mem_map.2 ⟨x,hm,rfl⟩);exact Hw LQ P d x.2.1 x.2.2 _ _ (n+1) W (hr.below hW) (hl.2.2.2 x hm) hat.1 hat.2.1 (by omega) (Nat.le_trans hcl hc)
theorem ad6 {kk:bY}{n:Nat}{V:bY}{F:Nat→Bool}{ws:bW}(hV:V.length=n * 512)(hw:∀ p ∈ ws,p.2.length=512∧p.1<n)(q:ay)(nd:az)(h:IW kk n V F ws q nd):IW kk n (jG V ws) F [] q nd:=by
 refine ⟨?_,h.2⟩;have h1:=h.1;unfold xQ at h1 ⊢;split at h1
 ·injection h1 with _ h1; cases h1
 rename_i hn
 rw [if_neg hn];rw [show uD (jG V ws) [] q.ad.toNat=uD V ws q.ad.toNat from Ha n _ V hV _ ws rfl (fun p hp=>⟨(hw p hp).2,(hw p hp).1⟩)];exact h1
section
variable {w0 w w':World} {P D gl n b:Nat} {V:bY} {F:Nat→Bool} {ws:bW} {lim:Int} {dn:Bool} {L:List eH} {M:List Nat}
theorem WX (h:QL w0 w P D gl n (keyE++uN) F b V ws lim dn L M):V.length=n * 512∧∀ p ∈ ws,p.2.length=512∧p.1<n:=by
 obtain ⟨bm,vw,hd,_⟩:=h.po;exact ⟨hd.len,hd.wok⟩
theorem ajS {P2 b2:Nat}{F2 F':Nat→Bool}(h:QL w0 w P D gl n (keyE++uN) F b V ws (-1) false L M)(hp:PL w P2 D n (keyE++uN) F2 b2):RD (LT n V F' ws) w P2:=fun W hW q nd hq=>by
 refine (WH P2 b2 F2 keyE uN q (h.below hW) (hp.below hW) nX nV).mono ?_;rintro e w' ⟨k,v,p,rfl,hn,hb⟩;rw [hq.1] at hn ⊢;exact ⟨k,v,p,rfl,hn,hb⟩
end
theorem ad7 {LQ:ay→az→Prop}{R R':Rt}{q:ay}(hs:J5 LQ R q R')(hw:R.wf){P2:Nat}{w w':World}{e:Ending}(h:Gz P2 q w e w') :
 ∃ t' R2,e = .returned (.tuple #[.pointer (some ⟨t',0,none⟩),.int .i64 0])∧gW LQ (fun k=>k<w'.heap.size) w' t' P2 R2∧R2.cn=R.cn∧Below w.heap.size w w':=by
 obtain ⟨t',root,rfl,h1,h2,h3,hb⟩:=h
 cases hs with
 | none _ hq =>
   rcases h3 with ⟨_,rfl⟩ | ⟨h3,_⟩
   ·exact ⟨t',none,rfl,⟨h2,trivial,trivial,fun k hk=>hk⟩,rfl,hb⟩
   exact absurd hq h3
 | some d a T q X hl2 hs2 =>
   rcases h3 with ⟨h3,_⟩ | ⟨h3,b,rfl,h4,h5⟩
   ·exact absurd h3 hl2.ne
   refine ⟨t',some ⟨d,sK b q X⟩,rfl,⟨h2, ?_,MP hs2 hw,fun k hk=>hk⟩,zQ hs2,hb⟩;rw [nz];exact ⟨lt_of_block h5,h5,hl2⟩
theorem J5.more {LQ ZV:ay→az→Prop}{R R':Rt}{q:ay}(h:J5 LQ R q R')(hq:∀ q nd,LQ q nd→ZV q nd):J5 ZV R q R':=by
 cases h with
 | none q h=>exact .none q h
 | some d a T q X h s=>exact .some d a T q X (h.more hq) s
theorem J5.null {LQ:ay→az→Prop}{R R':Rt}{q:ay}(h:J5 LQ R q R'):(q.ad == 0)=true∧R.cn=[]∨(q.ad == 0)=false:=by
 cases h with
 | none q h=>exact .inl ⟨by rw [h]; rfl,rfl⟩
 | some d a T q X h s=>exact .inr (beq_eq_false_iff_ne.2 h.ne)
theorem ZJ {LQ:ay→az→Prop}{R R':Rt}{q:ay}(h:J5 LQ R q R')(hw:R.wf)(hq:(q.ad == 0)=false)(hc:R.cn.length≤1000)(P:Nat)(w:World)(hr:RD LQ w P) :
 Calls Tryz.prog 22 #[.pointer (some ⟨P,0,none⟩),.agg (ag q).toArray,.string aY,.string aY,.int .i64 0] w fun e w'=>wu w R.cn e w':=by
 have hd:=(mZ hw hc).2.2.1
 cases h with
 | none q h=>rw [h] at hq; cases hq
 | some d a T q X h s =>
   have h1:l7 d (sK a q X) aY aY:=MP s hw;have h2:cont d (up d X)=Rt.cn (some ⟨d,T⟩):=zQ s;have h3:d≤9:=hd;rw [← h2] at hc ⊢;exact Hw LQ P d q X aY aY 0 w hr h h1.1 h1.2.1 (by omega) (by omega)
end
end Go.Proofs.YtljjcbmkbmloaaaGreatDoor
