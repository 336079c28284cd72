import Derived.Test.YtljjcbmkbmloaaaGreatDoorGTu11
import Derived.StillTailTactics
import Derived.Lib.Strings
import Derived.Sort.Walk0
import Derived.Test.YtljjcbmkbmloaaaGreatDoorGTuA
namespace Go.Proofs.YtljjcbmkbmloaaaGreatDoor
set_option maxHeartbeats 3200000
set_option maxRecDepth 100000
set_option linter.unusedVariables false
open Lib (hid)
section
set_option linter.unusedVariables false
open Go.RowKit
def BX (a a':bO):Prop:=∀ x',a'=some x'→∃ x,a=some x∧x.block=x'.block
theorem BX.refl (a:bO):BX a a:=fun x h=>⟨x,h,rfl⟩
theorem add_block (x:Addr)(k:Nat):(x.add k).block=x.block:=by unfold Addr.add; split <;> rfl
theorem OC (W:World)(a:bO)(len cap lo hi:Nat)(l:bI)(hB:BS W (.slice a len cap) l)(hl:l.length=len)(h1:lo≤hi)(h2:hi≤len)(h3:len≤cap) :
 ∃ a2:bO,(∀ W',(Instr.slice 62 (.slice a len cap) (some (.int .i64 (lo:Int))) (some (.int .i64 (hi:Int))) none).run Tryz.prog W' = .ok (.slice a2 (hi - lo) (cap - lo)) W') ∧
   (hi=len→∀ W',(Instr.slice 62 (.slice a len cap) (some (.int .i64 (lo:Int))) none none).run Tryz.prog W' = .ok (.slice a2 (hi - lo) (cap - lo)) W') ∧
   (lo=0→∀ W',(Instr.slice 62 (.slice a len cap) none (some (.int .i64 (hi:Int))) none).run Tryz.prog W' = .ok (.slice a2 (hi - lo) (cap - lo)) W') ∧
   BS W (.slice a2 (hi - lo) (cap - lo)) ((l.drop lo).take (hi - lo))∧BX a a2:=by
 obtain ⟨a2,e1,e2,e3,hb⟩:=wG W a len cap lo hi l hB hl h1 h2 h3
 refine ⟨a2,e1,e2,e3,hb, ?_⟩
 obtain ⟨i0,hi0,hs⟩:=Option.map_eq_some_iff.1 sQ
 have e4:=e1 W
 have b1:=fG hi cap .sliceAcap (by omega) W
 have b2:=fG lo hi .sliceB h1 W
 simp [Instr.slice,run_underlying Tryz.underlying62,Instr.sliceBounds,sizeOf,typeInfo,hi0,hs,b1,b2] at e4
 intro x' e
 rw [← e4] at e
 split at e
 ·exact ⟨x',e,rfl⟩
 ·cases a with
  | none=>cases e
  | some ad =>
    simp only [Option.map_some,Option.some.injEq] at e;exact ⟨ad,rfl,by rw [← e,add_block]⟩
theorem ams {N:Nat}{w:World}{t R lb cb:Nat}{ab:bO}{l:bI}(h:RR w t R ab lb cb l)(hR:R<N)(hN:N≤w.heap.size)(hd:∀ x,ab=some x→l ≠ []→x.block<N):RT N w t R l:=by
 refine ⟨hN,ab,lb,cb,(iY w hR).trans h.cell, ?_,h.len,h.cap,h.big⟩;obtain ⟨a',cap',hv,hy,hn,hc⟩:=h.bytes;refine ⟨a',cap',hv,hy,hn, ?_⟩;rcases hc with h0 | ⟨b,off,ha,hc⟩
 ·exact .inl h0
 by_cases hl:l=[]
 ·exact .inl hl
 have hb:b<N:=hd ⟨b,off,none⟩ (by injection hv with e1 _ _; rw [e1,ha]) hl;refine .inr ⟨b,off,ha,fun i hi=>?_⟩;have q0:=hc i hi;simp only [World.cell?] at q0 ⊢;rw [iY w hb];exact q0
theorem Ff {N:Nat}{w:World}{t R lb cb:Nat}{ab:bO}{l:bI}(h:RT N w t R l)(k:RR w t R ab lb cb l):∀ x,ab=some x→l ≠ []→x.block<N:=by
 have hR:=h.lt;obtain ⟨hN,ab',lb',cb',h⟩:=h;intro x e hl;have c1:=h.cell;rw [iY w hR,k.cell] at c1;simp only [Option.some.injEq,Obj.cells.injEq] at c1;have c2:=congrArg (fun x:Array Value=>x[0]?) c1.1;simp at c2;obtain ⟨e1,e2,e3⟩:=c2;obtain ⟨a',cap',hv,hy,hn,hc⟩:=h.bytes;rcases hc with h0 | ⟨b',off',ha,hc⟩
 ·exact absurd h0 hl
 injection hv with f1 _ _;rw [← e1,e,ha] at f1;injection f1 with f1;subst f1;have:=block_lt_of_cell (hc 0 (List.length_pos_iff.2 hl));rwa [mF hN] at this
theorem vF {N:Nat}{w w':World}{t R:Nat}{l:bI}(h:RT N w t R l)(b:Below w.heap.size w w'):RT N w' t R l :=
 h.keep (Nat.le_trans h.1 b.size) (fun k hk=>b.block k (Nat.lt_of_lt_of_le hk h.1))
theorem yj (R lb cb:Nat)(ab:bO)(l:bI)(n:Int)(w:World)(h:RR w 217 R ab lb cb l)(hn:n≤9223372036854775807) :
 Calls Tryz.prog 144 #[.pointer (some ⟨R,0,none⟩),.int .i64 n] w fun e w'=>(∃ v,e = .returned (.tuple #[v,.int .i64 (gu n l).2.1])∧BS w' v (gu n l).1)∧(∃ ab' lb' cb',BX ab ab'∧RR w' 217 R ab' lb' cb' (gu n l).2.2)∧Only R w w':=by
 have H:=hid h
 have c0:=h.at
 have hl:=h.len
 have hbig:=h.big
 have hcap:=h.cap
 by_cases h0:n<0
 ·rw [show gu n l=([],2,l) by unfold gu; rw [if_pos h0]]
  clear h hl hbig hcap;go_in;go_wp2_with fail;go_ret2;exact ⟨⟨_,rfl,EP _⟩,⟨_,_,_,BX.refl _,H.out⟩,Only.refl _ _⟩
 ·obtain ⟨m,rfl⟩:∃ m:Nat,n=(m:Int):=⟨n.toNat,by omega⟩
  have m0:(0:Int)≤(m:Int):=by omega
  have lI:(lb:Int)≤140737488351232:=by omega
  by_cases h1:lb<m
  ·rw [show gu (m:Int) l=([],3,l) by unfold gu; rw [if_neg (by omega),if_pos (by omega)]]
   have h1b:decide (lb<m)=true:=by simp [h1]
   have h1c:(lb:Int)<(m:Int):=by omega
   clear h hl hbig hcap h0 h1;go_in;go_wp2_with fail;go_ret2;exact ⟨⟨_,rfl,EP _⟩,⟨_,_,_,BX.refl _,H.out⟩,Only.refl _ _⟩
  rw [show gu (m:Int) l=(l.take m,0,l.drop m) by unfold gu; rw [if_neg (by omega),if_neg (by omega)]; rfl];have h1b:decide (lb<m)=false:=by simp; omega
  obtain ⟨a1,_,_,e1,B1⟩:=wG w ab lb cb 0 m l h.bytes hl (Nat.zero_le _) (by omega) hcap;obtain ⟨a2,_,e2,_,B2,S2⟩:=OC w ab lb cb m lb l h.bytes hl (by omega) (Nat.le_refl _) hcap;have e1:=e1 rfl;have e2:=e2 rfl;simp only [Nat.sub_zero] at e1 B1;have f0:=frozen_of_row w R 0 _ _ h.cell;have hO:Only R w (w.setCell ⟨R,0,none⟩ (.slice a2 (lb - m) (cb - m))):=(Only.refl _ _).setCell _ _;have HO:=hid hO;have HB1:=hid (show BS (w.setCell ⟨R,0,none⟩ (.slice a2 (lb - m) (cb - m))) (.slice a1 m cb) (l.take m) from by have q:=B1.only h.cell hO; simpa using q);have HRR:=hid (show RR (w.setCell ⟨R,0,none⟩ (.slice a2 (lb - m) (cb - m))) 217 R a2 (lb - m) (cb - m) (l.drop m) from
   ⟨heap_setCell_same _ _ _ _ _ _ h.cell,by have q:=B2.only h.cell hO; rw [List.take_of_length_le (by rw [List.length_drop]; omega)] at q; exact q,by rw [List.length_drop]; omega,by omega,by omega⟩)
  have HS2:=hid S2;clear h hl hbig hcap h0 h1 B1 B2 hO S2;go_in;go_wp2_with fail;go_ret2;exact ⟨⟨_,rfl,HB1.out⟩,by first | exact ⟨_,_,_,HS2.out,HRR.out⟩ | exact ⟨_,HS2.out,_,_,HRR.out⟩,HO.out⟩
theorem Yb (R lb cb:Nat)(ab:bO)(l:bI)(n:Int)(w:World)(h:RR w 217 R ab lb cb l)(hn:n≤9223372036854775807) :
 Calls Tryz.prog 118 #[.pointer (some ⟨R,0,none⟩),.int .i64 n] w fun e w'=>e = .returned (.tuple #[.int .u64 (iV n l).1,.int .i64 (iV n l).2.1])∧(∃ ab' lb' cb',BX ab ab'∧RR w' 217 R ab' lb' cb' (iV n l).2.2)∧Only R w w':=by
 have H:=hid h
 by_cases h1:8<n
 ·rw [show iV n l=(0,2,l) by unfold iV; rw [if_pos (.inr h1)]]
  clear h;go_in;go_wp2_with fail;go_ret2;exact ⟨rfl,⟨_,_,_,BX.refl _,H.out⟩,Only.refl _ _⟩
 ·have HR:=hid (yj R lb cb ab l n w h hn)
  have hs:=ER n l (by omega);have h11:n≤8:=by omega
  have hE:∃ er,(gu n l).2.1=er∧(er ≠ 0→(gu n l).2.1=er∧iV n l=(0,er,(gu n l).2.2))∧(er=0→iV n l=(num (gu n l).1,0,(gu n l).2.2)):=by
   refine ⟨_,rfl,fun hne=>⟨rfl, ?_⟩,fun he=>?_⟩
   ·by_cases h0:n<0
    ·unfold iV gu; rw [if_pos (.inl h0),if_pos h0]
    unfold iV;rw [if_neg (by omega)];unfold gu at hne ⊢;rw [if_neg h0] at hne ⊢;split
    ·rfl
    rename_i hc; rw [if_neg hc] at hne; exact absurd rfl hne
   by_cases h0:n<0
   ·unfold gu at he; rw [if_pos h0] at he; simp at he
   unfold iV;rw [if_neg (by omega),he]
  obtain ⟨er,her,hA,hB⟩:=hE;have HS:=hid hs;generalize gu n l=Q at *;obtain ⟨q1,q2,q3⟩:=Q;dsimp only at her;subst her;by_cases h0:q2=0
  ·subst h0
   rw [hB rfl];clear h h1 hs hA hB;go_in;go_wp2_with fail;refine HR.out.mono ?_;rintro e w1 ⟨⟨v,rfl,hv⟩,hr,hO⟩;have HN:=hid (aae w1 v q1 hv HS.out);have HRR:=hid hr;have HO:=hid hO;clear hv hr hO HR;go_wp2_with fail;refine HN.out.mono ?_;rintro e w2 ⟨rfl,rfl⟩;go_wp2_with fail;go_ret2;exact ⟨rfl,HRR.out,HO.out⟩
  rw [(hA h0).2];have hnb:(q2 != 0)=true:=by simp [h0]
  clear h h1 hs hA hB;go_in;go_wp2_with fail;refine HR.out.mono ?_;rintro e w1 ⟨⟨v,rfl,hv⟩,hr,hO⟩;have HRR:=hid hr;have HO:=hid hO;clear hv hr hO HR;go_wp2_with fail;go_ret2;exact ⟨rfl,HRR.out,HO.out⟩
theorem aeX (R lb cb:Nat)(ab:bO)(l:bI)(N:Nat)(w:World)(hT:RT N w 217 R l)(h:RR w 217 R ab lb cb l) :
 Calls Tryz.prog 119 #[.pointer (some ⟨R,0,none⟩)] w fun e w'=>e = .returned (.tuple #[.string (ku l).1,.int .i64 (ku l).2.1])∧RT N w' 217 R (ku l).2.2∧sH R w w':=by
 have HT0:=hid hT
 have HNW:=hid hT.1
 have ZU:=hid (Ff hT h)
 have H:=hid h
 have c0:=h.at
 have hz:=Oo
 have hA:RR (w.alloc (.cells #[.slice ab lb cb] 217)) 217 w.heap.size ab lb cb l :=
  ⟨heap_alloc_new w _,h.bytes.kept ((Below.refl w.heap.size w).alloc (Nat.le_refl _) _),h.len,h.cap,h.big⟩
 have HN:=hid (Yb w.heap.size lb cb ab l 1 _ hA (by omega))
 rw [jB] at HN
 have HB1:=hid ((Below.refl w.heap.size w).alloc (Nat.le_refl _) (.cells #[.slice ab lb cb] 217))
 have HY:=hid h.bytes.DK
 have HR:=hid (Array.getElem?_eq_some_iff.1 h.cell).1
 cases l with
 | nil =>
   rw [show ku []=(⟨#[]⟩,3, []) from rfl];rw [if_pos rfl] at HN;clear h hA hT;go_in;go_wp2_with fail;refine HN.out.mono ?_;rintro e w2 ⟨rfl,_,hO⟩;have HB2:=hid (HB1.out.trans (hO.bel _ (Nat.le_refl _)));clear hO HN;go_wp2_with fail;go_ret2;exact ⟨rfl,vF HT0.out (HB2.out),sH.of_below HB2.out⟩
 | cons c t =>
   have hcb:=h.bytes.DK c (by simp);obtain ⟨m,rfl⟩:∃ m:Nat,c=(m:Int):=⟨c.toNat,by omega⟩
   have mI:(m:Int)≤255:=hcb.2;have m0:(0:Int)≤(m:Int):=hcb.1;have HT:=hid (show gu (m:Int) t=if t.length<m then ([],3,t) else (t.take m,0,t.drop m) by
    unfold gu; rw [if_neg (by omega)];by_cases hq:t.length<m
    ·rw [if_pos (by omega),if_pos hq]
    rw [if_neg (by omega),if_neg hq]; rfl)
   have HS:=hid (show ku ((m:Int)::t)=if t.length<m then (⟨#[]⟩,3,(m:Int)::t) else (strOfNums (t.take m),0,t.drop m) by
    unfold ku;by_cases hq:t.length<m
    ·rw [if_pos (.inr (by simp; omega)),if_pos hq]
    rw [if_neg (by simp; omega),if_neg hq];simp [Nat.add_comm 1 m])
   rw [if_neg (by simp)] at HN;simp only [List.getD_cons_zero,List.drop_succ_cons,List.drop_zero] at HN;clear h hA hcb hT;by_cases hq:t.length<m
   ·rw [HS.out,if_pos hq]
    rw [if_pos hq] at HT;clear hq;go_in;go_wp2_with fail;refine HN.out.mono ?_;rintro e w2 ⟨rfl,⟨a2,l2,c2,hS2,hR2⟩,hO2⟩;have HX:=hid (yj w.heap.size l2 c2 a2 t (m:Int) w2 hR2 (by omega));rw [HT.out] at HX;have HB2:=hid (HB1.out.trans (hO2.bel _ (Nat.le_refl _)));clear hR2 hO2 HN HT HS;go_wp2_with fail;refine HX.out.mono ?_;rintro e w3 ⟨⟨v,rfl,hv⟩,_,hO⟩;have HB3:=hid (HB2.out.trans (hO.bel _ (Nat.le_refl _)));clear hv hO HX;go_wp2_with fail;go_ret2;exact ⟨rfl,vF HT0.out (HB3.out),sH.of_below HB3.out⟩
   rw [HS.out,if_neg hq];rw [if_neg hq] at HT;have bn:=hid (show (t.take m).length=m by rw [List.length_take]; omega);clear hq;go_in;go_wp2_with fail;refine HN.out.mono ?_;rintro e w2 ⟨rfl,⟨a2,l2,c2,hS2,hR2⟩,hO2⟩;have HX:=hid (yj w.heap.size l2 c2 a2 t (m:Int) w2 hR2 (by omega));rw [HT.out] at HX;have HB2:=hid (HB1.out.trans (hO2.bel _ (Nat.le_refl _)));clear hR2 hO2 HN HT HS;go_wp2_with fail;refine HX.out.mono ?_;rintro e w3 ⟨⟨v,rfl,hv⟩,⟨a3,l3,c3,hS3,hR3⟩,hO⟩;have hb3:=HB2.out.trans (hO.bel _ (Nat.le_refl _));have d3:=hR3.at;have hH3:=H.out.below hb3;have e3:=hH3.at;have f3:=frozen_of_row w3 R 0 _ _ hH3.cell;have hO4:=(Only.refl R w3).setCell 0 (.slice a3 l3 c3);have hvv:BS (w3.setCell ⟨R,0,none⟩ (.slice a3 l3 c3)) v (t.take m):=hv.only hH3.cell hO4;obtain ⟨av,cv,rfl⟩:∃ av cv,v = .slice av m cv:=by
    obtain ⟨av,cv,hve,_⟩:=id hvv;rw [bn.out] at hve;exact ⟨av,cv,hve⟩
   have hcw:=Kq hvv;have HRR:=hid (show RR (w3.setCell ⟨R,0,none⟩ (.slice a3 l3 c3)) 217 R a3 l3 c3 (t.drop m) from
    ⟨heap_setCell_same _ _ _ _ _ _ hH3.cell,hR3.bytes.only hH3.cell hO4,hR3.len,hR3.cap,hR3.big⟩)
   have HRT:=hid (ams HRR.out HT0.out.lt (Nat.le_trans HNW.out (Nat.le_trans hb3.size (Nat.le_of_eq (by simp)))) (fun x e _=>by
    obtain ⟨y,e1,f1⟩:=hS3 x e;obtain ⟨z,e2,f2⟩:=hS2 y e1;rw [← f1,← f2];exact ZU.out z e2 (by simp)))
   have HC:=hid ((sH.of_below (R:=R) hb3).trans (sH.dC hO4));clear hR3 hv hb3 hH3 hO4 hvv hO HX;go_wp2_with fail;go_ret2;exact ⟨rfl,HRT.out,HC.out⟩
theorem Ls (R lb cb:Nat)(ab:bO)(l:bI)(N:Nat)(w:World)(hT:RT N w 217 R l)(h:RR w 217 R ab lb cb l)(hs:l.length<44) :
 Calls Tryz.prog 120 #[.pointer (some ⟨R,0,none⟩)] w fun e w'=>e = .returned (.tuple #[.agg (ag ai).toArray,.int .i64 3])∧RT N w' 217 R l∧sH R w w':=by
 have HT0:=hid hT
 have HNW:=hid hT.1
 have ZU:=hid (Ff hT h)
 have hb:=(Below.refl w.heap.size w).alloc (Nat.le_refl _) (.cells (ag ai).toArray 51)
 have hA:=heap_alloc_new w (.cells (ag ai).toArray 51)
 have h1:=h.below hb
 have HN:=hid (Jf R lb cb ab l _ h1)
 have H0:=hid h
 have hz:=dF
 have hbn:=sZ
 have SE:=hid (cZ ai)
 have SO:=hid (aW ai)
 have HB:=hid hb
 have HA:=hid hA
 have hlt:decide ((l.length:Int)<44)=true:=by simp; omega
 clear h hT hb hA h1 hs
 generalize (ag ai).toArray=ZR at *
 go_in
 go_wp2_with fail
 refine HN.out.mono ?_
 rintro e w2 ⟨rfl,rfl⟩
 go_wp2_with (first
  | (with_reducible refine wpList_store_row (o:=⟨none,.store _ (.tmp 2) _,_,_,_,_⟩) rfl 51 _ _ rfl w.heap.size ZR rfl rfl 51 ZR HA.out SE.out rfl SO.out ?_))
 have h5:Below w.heap.size w ((w.alloc (.cells ZR 51)).setRow w.heap.size ZR):=aG HB.out (Nat.le_refl _) _
 refine bodyPost_ret (v := .tuple #[.agg ZR,.int .i64 3]) (aj Tryz.results120 _ _ w.heap.size 51 ZR (0,0) _ rfl (setRow_heap _ w.heap.size _ ZR _ _ HA.out) Tryz.underlying51 rfl SE.out _ (by simp)) rfl ⟨rfl,vF HT0.out (h5),sH.of_below h5⟩
theorem Yc (R lb cb:Nat)(ab:bO)(l:bI)(N:Nat)(w:World)(hT:RT N w 217 R l)(h:RR w 217 R ab lb cb l)(hs:44≤l.length) :
 Calls Tryz.prog 120 #[.pointer (some ⟨R,0,none⟩)] w fun e w'=>e = .returned (.tuple #[.agg (ag (iH l)).toArray,.int .i64 0])∧RT N w' 217 R (l.drop 44)∧sH R w w':=by
 have HT0:=hid hT
 have HNW:=hid hT.1
 have ZU:=hid (Ff hT h)
 have hb:=(Below.refl w.heap.size w).alloc (Nat.le_refl _) (.cells (ag ai).toArray 51)
 have hA:=heap_alloc_new w (.cells (ag ai).toArray 51)
 have hsz:(w.alloc (.cells (ag ai).toArray 51)).heap.size=w.heap.size+1:=by simp
 have h1:=h.below hb
 have hr1:=hT.keep (w':=w.alloc (.cells (ag ai).toArray 51)) (by have:=hT.1; omega) (fun k hk=>hb.block k (Nat.lt_of_lt_of_le hk hT.1))
 have hby:=h.bytes.DK
 obtain ⟨p4,p8,p32⟩:=OA l hs hby
 have HN:=hid (Jf R lb cb ab l _ h1)
 have AY:=hid (Lr _ R l 4 _ hr1 (by omega))
 rw [show iV 4 l=(num (l.take 4),0,l.drop 4) from Oz 4 l (by omega) (by omega),p4] at AY
 have HM2:=hid (show iV 8 (l.drop 4)=((iH l).bi,0,l.drop 12) by
  rw [show iV 8 (l.drop 4)=_ from Oz 8 (l.drop 4) (by rw [List.length_drop]; omega) (by omega),p8,List.drop_drop])
 have HM3:=hid (show uA (l.drop 12)=((iH l).su,0,l.drop 44) by
  unfold uA;rw [if_neg (by rw [List.length_drop]; omega),p32,List.drop_drop])
 have hz:=dF
 have hzh:=x9
 have SE:=hid (cZ (iH l))
 have SO:=hid (aW (iH l))
 have SL:=hid (show (ag ai).toArray.size=(ag (iH l)).toArray.size by simp [aO])
 have Iz:=hid (Jm (iH l))
 have SH:=hid (yc (iH l).su (iH l).s0.1)
 have SHO:=hid (KZ (iH l).su)
 have SHL:=hid (show (uK (List.replicate 32 0)).size=(uK (iH l).su).size by rw [pg,pg,(iH l).s0.1]; simp)
 have hwr:IntKind.u32.wrap (iH l).ad=(iH l).ad:=IntWalk.u32_in _ (by have:=(iH l).a0; omega)
 have HRl:=hid (show R<w.heap.size from (Array.getElem?_eq_some_iff.1 h.cell).1)
 have HB:=hid hb
 have HA:=hid hA
 have kG:=hid hsz
 have hlt:decide ((l.length:Int)<44)=false:=by simp; omega
 clear h hT hb hA h1 hs hsz hby p4 p8 p32 hr1
 generalize (ag ai).toArray=ZR at *
 generalize (ag (iH l)).toArray=QR at *
 generalize (iH l).ad=ad at *
 generalize (iH l).bi=bi at *
 generalize (iH l).su=su at *
 generalize uK (List.replicate 32 0)=ZH at *
 generalize hSU:uK su=SU at *
 have HSU:=hid hSU
 clear hSU
 generalize hW1:w.alloc (.cells ZR 51)=w1 at *
 go_in
 go_upto_region 1 with fail
 clear hW1 hz
 go_wp2_with fail
 refine HN.out.mono ?_
 rintro e w2 ⟨rfl,rfl⟩
 clear HN
 go_wp2_with fail
 refine AY.out.mono ?_
 rintro e w2 ⟨rfl,r2,O2⟩
 have NC:=hid (Lr _ R _ 8 w2 r2 (by omega))
 rw [HM2.out] at NC
 have HA2:=hid ((O2.rest w.heap.size (by have:=HRl.out; omega)).trans HA.out)
 have C2:=hid ((sH.of_below HB.out).trans (sH.dC O2))
 have SZ2:=hid (show w2.heap.size=w.heap.size+1 by rw [O2.size]; exact kG.out)
 clear r2 O2 AY HM2 HA HB hlt
 go_wp2_with fail
 refine NC.out.mono ?_
 rintro e w3 ⟨rfl,r3,O3⟩
 have Iw:=hid (aeW _ R _ w3 r3)
 rw [HM3.out] at Iw
 have Am:=hid ((O3.rest w.heap.size (by have:=HRl.out; omega)).trans HA2.out)
 have C3:=hid (C2.out.trans (sH.dC O3))
 have SZ3:=hid (show w3.heap.size=w.heap.size+1 by rw [O3.size]; exact SZ2.out)
 clear r3 O3 NC HM3 HA2 C2
 go_wp2_with fail
 refine Iw.out.mono ?_
 rintro e w4 ⟨rfl,r4,O4⟩
 have BI:=hid ((O4.block w.heap.size (by have:=SZ3.out; omega) (by have:=HRl.out; omega)).trans Am.out)
 have C4:=hid (C3.out.trans O4)
 have HR4:=hid r4
 have SZ4:=hid (show w.heap.size+1≤w4.heap.size by have:=O4.size; have:=SZ3.out; omega)
 clear r4 O4 Iw Am C3
 rw [HSU.out]
 have HH:=hid (heap_alloc_new w4 (.cells ZH 49))
 go_upto_region 8 with (first
  | (with_reducible refine wpList_store_row (o:=⟨none,.store _ (.tmp 8) _,_,_,_,_⟩) rfl 49 _ _ rfl w4.heap.size SU rfl rfl 49 ZH HH.out SH.out SHL.out SHO.out ?_))
 have H5:=hid (setRow_heap (w4.alloc (.cells ZH 49)) w4.heap.size _ SU _ _ HH.out)
 have hb5:Below w4.heap.size w4 ((w4.alloc (.cells ZH 49)).setRow w4.heap.size SU):=aG ((Below.refl w4.heap.size w4).alloc (Nat.le_refl _) _) (Nat.le_refl _) _
 have HA5:=hid ((hb5.block w.heap.size (by have:=SZ4.out; omega)).trans BI.out)
 have gp:=hid hb5
 generalize (w4.alloc (.cells ZH 49)).setRow w4.heap.size SU=w5 at *
 clear hb5 HH BI hzh
 go_wp2_with (first
  | (with_reducible refine wpList_load_row (o:=⟨some 35,_,_,_,_,_⟩) rfl 49 _ rfl w4.heap.size rfl 49 SU (0,0) _ H5.out Tryz.underlying49 rfl SH.out ?_)
  | (with_reducible refine bD (o:=⟨some 36,_,_,_,_,_⟩) rfl 51 _ rfl #[(0,.int .u32 ad),(1,.int .u64 bi),(2,.agg SU)] (by simp [Act.eval,Act.put]) (.agg QR) (Iz.out _) ?_)
  | (with_reducible refine wpList_store_row (o:=⟨none,.store _ (.tmp 2) _,_,_,_,_⟩) rfl 51 _ _ rfl w.heap.size QR rfl rfl 51 ZR HA5.out SE.out SL.out SO.out ?_))
 have hb6:Below w.heap.size w4 (w5.setRow w.heap.size QR):=aG (gp.out.mono (by have:=SZ4.out; omega)) (Nat.le_refl _) _
 refine bodyPost_ret (v := .tuple #[.agg QR,.int .i64 0]) (aj Tryz.results120 _ _ w.heap.size 51 QR (0,0) _ rfl (setRow_heap _ w.heap.size _ QR _ _ HA5.out) Tryz.underlying51 rfl SE.out _ (by simp)) rfl ⟨rfl, ?_, ?_⟩
 ·exact (HR4.out.keep (Nat.le_trans (by have:=SZ4.out; have:=HNW.out; omega) hb6.size) (fun k hk=>hb6.block k (Nat.lt_of_lt_of_le hk HNW.out)))
 ·exact ⟨hb6.os.trans C4.out.os,hb6.tape.trans C4.out.tape,hb6.output.trans C4.out.output,Nat.le_trans C4.out.size (Nat.le_trans gp.out.size (by simp)),fun k hk hne=>(hb6.block k hk).trans (C4.out.block k hk hne)⟩
theorem aij (N R:Nat)(l:bI)(w:World)(h:RT N w 217 R l) :
 Calls Tryz.prog 120 #[.pointer (some ⟨R,0,none⟩)] w fun e w'=>e = .returned (.tuple #[.agg (ag (yh l).1).toArray,.int .i64 (yh l).2.1])∧RT N w' 217 R (yh l).2.2∧sH R w w':=by
 obtain ⟨ab,lb,cb,hr⟩:=h.rr
 by_cases hs:l.length<44
 ·rw [show yh l=(ai,3,l) by unfold yh; rw [if_pos hs]]
  exact Ls R lb cb ab l N w h hr hs
 ·rw [show yh l=(iH l,0,l.drop 44) by unfold yh; rw [if_neg hs]]
  exact Yc R lb cb ab l N w h hr (by omega)
theorem abj (N R:Nat)(l:bI)(w:World)(h:RT N w 217 R l) :
 Calls Tryz.prog 119 #[.pointer (some ⟨R,0,none⟩)] w fun e w'=>e = .returned (.tuple #[.string (ku l).1,.int .i64 (ku l).2.1])∧RT N w' 217 R (ku l).2.2∧sH R w w':=by
 obtain ⟨ab,lb,cb,hr⟩:=h.rr
 exact (aeX R lb cb ab l N w h hr).mono fun e w' ⟨he,hr,hO⟩=>⟨he,hr,hO⟩
end
section
open Go.ChangeShapes Go.WideShapes Go.ChangeAt Go.RowKit
end
section
open Go.ChangeShapes Go.WideShapes Go.ChangeAt Go.RowKit
theorem rF (b off len cap i:Nat)(h:i<len)(W:World):(Instr.indexAt 116 (.slice (some ⟨b,off,none⟩) len cap) (.int .i64 (i:Int))).run Tryz.prog W = .ok (.pointer (some ⟨b,off+i * 34,none⟩)) W:=by
 obtain ⟨i0,hi,hs⟩:=Option.map_eq_some_iff.1 (show (Tryz.prog.info? 51).map (·.size)=some 34 by kernel_rfl);simp [Instr.indexAt,asIntOf,run_underlying Tryz.underlying116,sizeOf,typeInfo,hi,hs,h,Addr.add_mid]
end
section
open Go.ChangeShapes Go.WideShapes Go.ChangeAt Go.RowKit
def kP (l:List ay):List Value:=l.flatMap ag
theorem tu (l:List ay):(kP l).length=l.length * 34:=by
 induction l with
 | nil=>rfl
 | cons q l ih =>
   show (ag q++kP l).length=_;rw [List.length_append,ih,aO,List.length_cons];omega
theorem pG {B n k:Nat}{e:TypeId}{v:Value}{xs:List Value}{w w':World}(h:w.ownsRow B e k v n xs)(hb:Below w.heap.size w w'):w'.ownsRow B e k v n xs :=
 h.kept (row:=none) ⟨hb.os,hb.tape,hb.output,hb.size,fun j hj _=>hb.block j hj⟩ (by by_cases q:v.ownBlock=none; exact .inl q; exact .inr q)
theorem Lt (q:ay)(W:World):(Instr.buildSlice 116 1 #[(0,.agg (ag q).toArray)]).run Tryz.prog W = .ok (.slice (some ⟨W.heap.size,0,none⟩) 1 1) (W.alloc (.cells (ag q).toArray 51)) :=
 DR Tryz.underlying116 Ox (by decide) (by decide) _ (by simp [aO]) W
theorem Fg (l:List ay)(i:Nat)(q:ay)(hi:l[i]? = some q)(j:Nat)(hj:j<34):(kP l)[i * 34+j]? = (ag q)[j]? := by
 induction l generalizing i with
 | nil=>simp at hi
 | cons p l ih =>
   show (ag p++kP l)[i * 34+j]? = _;cases i with
   | zero =>
     simp at hi;subst hi;rw [List.getElem?_append_left (by rw [aO]; omega)];congr 1;omega
   | succ i =>
     rw [List.getElem?_append_right (by rw [aO]; omega),aO];rw [← ih i (by simpa using hi)];congr 1;omega
theorem vG (w:World)(Z R:Array Value):((w.alloc (.cells Z 51)).setRow w.heap.size R).heap[w.heap.size]? = some (.cells R 51 (0,0))∧Below w.heap.size w ((w.alloc (.cells Z 51)).setRow w.heap.size R):=by
 obtain ⟨e1,e2,e3⟩:=uV (w:=w) (old:=Z) (cs:=R) (T:=51);exact ⟨e1,e3⟩
end
section
set_option linter.unusedVariables false
open Go.ChangeShapes Go.WideShapes Go.ChangeAt Go.RowKit
def PS (w:World)(v:Value)(l:List ay):Prop :=
 ∃ a c,v = .slice a l.length c∧∀ (i:Nat) (q:ay),l[i]? = some q→∃ b off,a=some ⟨b,off,none⟩∧w.rangeAt b (off+i * 34) (ag q)
theorem PS.below {w w':World}{v:Value}{l:List ay}(h:PS w v l)(hb:Below w.heap.size w w'):PS w' v l:=by
 obtain ⟨a,c,e,h⟩:=h;refine ⟨a,c,e,fun i q hq=>?_⟩;obtain ⟨b,off,h1,h2⟩:=h i q hq;exact ⟨b,off,h1,dm h2 hb⟩
theorem abk {w:World}{B:Nat}{v:Value}{n:Nat}{l:List ay}(h:w.ownsRow B 51 34 v n (kP l)):PS w v l:=by
 have hl:=h.1;rw [tu] at hl;obtain rfl:l.length=n:=Nat.eq_of_mul_eq_mul_right (by decide) hl;rcases h.2 with ⟨rfl,h0⟩ | ⟨g,cap,cur,rfl,hbase,hb,h1,h2,h3,h4⟩
 ·have:l=[]:=List.length_eq_zero_iff.1 h0
  subst this;exact ⟨none,0,rfl,fun i q hq=>by simp at hq⟩
 refine ⟨_,cap,rfl,fun i q hq=>⟨g,0,rfl,fun j u hj=>?_⟩⟩;have hi:i<l.length:=(List.getElem?_eq_some_iff.1 hq).1;have aik:j<34:=by have:=(List.getElem?_eq_some_iff.1 hj).1; rwa [aO] at this
 have e:=Fg l i q hq j aik;rw [hj,← h4,List.getElem?_take_of_lt (by omega),Array.getElem?_toList] at e;rw [Nat.zero_add];simp only [World.cell?,hb];simpa using e
end
section
open Go.ChangeShapes Go.WideShapes Go.ChangeAt Go.RowKit
theorem Jo (w:World)(B n:Nat)(v u:Value)(xs l:List ay)(hown:w.ownsRow B 51 34 v n (kP xs))(hu:PS w u l)(h1:n≤1000000)(h2:l.length≤1000000)(hB:B≤w.heap.size) :
 ∃ a c w',(Builtin.append_ #[116,116] 116 #[v,u]).run Tryz.prog w = .ok (.slice a (n+l.length) c) w'∧w'.ownsRow B 51 34 (.slice a (n+l.length) c) (n+l.length) (kP (xs++l))∧w.grownBy w' v.ownBlock∧((Value.slice a (n+l.length) c).ownBlock=v.ownBlock∨(Value.slice a (n+l.length) c).ownBlock=some w.heap.size):=by
 obtain ⟨i0,hi,hz0,hz1,hz2⟩:=info_parts Ox
 obtain ⟨ad,cu,rfl,hc⟩:=hu
 have shp:∀ (v':Value) (w':World) (ys:List Value),w'.ownsRow B 51 34 v' (n+l.length) ys→∃ a c,v' = .slice a (n+l.length) c:=fun v' w' ys ho=>by
  rcases ho.2 with ⟨rfl,h0⟩ | ⟨g,cap,_,rfl,_⟩
  ·exact ⟨none,0,by rw [h0]⟩
  exact ⟨_,_,rfl⟩
 cases ad with
 | none =>
   have hl:l=[]:=by
    cases l with
    | nil=>rfl
    | cons p l=>obtain ⟨b,off,h,_⟩:=hc 0 p rfl; cases h
   subst hl;have hr:(Builtin.append_ #[116,116] 116 #[v,.slice none 0 cu]).run Tryz.prog w = .ok v w:=by
    rcases hown.2 with ⟨rfl,rfl⟩ | ⟨g,cap,cur,rfl,_,_,hnc,_⟩
    ·simp [Builtin.append_,run_underlying Tryz.underlying116,sizeOf,typeInfo,hi,Builtin.lenOf,Builtin.firstCells]
    simp [Builtin.append_,run_underlying Tryz.underlying116,sizeOf,typeInfo,hi,Builtin.lenOf,Builtin.firstCells,hnc,storeCells]
   obtain ⟨a,c,rfl⟩:=shp v w _ hown;exact ⟨a,c,w,hr,by simpa using hown,⟨rfl,rfl,rfl,Nat.le_refl _,fun _ _ _=>rfl⟩,.inl rfl⟩
 | some ad =>
   obtain ⟨v',w',hr,ho,hg,_,hnb⟩:=run_append_own_at (P:=Tryz.prog) w B 116 116 51 i0 _ 34 48 Tryz.underlying116 hi hz0 hz1 hz2 (by simp [Value.cells,aO]) (by decide) v n (kP xs) hown ad l.length cu (kP l) (tu l) (fun j u hj=>by
    have hjl:j<l.length * 34:=by have:=(List.getElem?_eq_some_iff.1 hj).1; rwa [tu] at this
    have hd:j / 34<l.length:=by omega
    obtain ⟨b,off,he,hrg⟩:=hc (j / 34) l[j / 34] (List.getElem?_eq_getElem hd);obtain rfl:=Option.some.inj he;have e:=Fg l (j / 34) l[j / 34] (List.getElem?_eq_getElem hd) (j % 34) (by omega);rw [show j / 34 * 34+j % 34=j by omega,hj] at e;have h3:=hrg (j % 34) u e.symm;rw [Addr.add_mid];rw [show off+j / 34 * 34+j % 34=off+j by omega] at h3;exact h3) (fun u hu=>by
    obtain ⟨q,_,hq⟩:=List.mem_flatMap.1 hu;exact Iu q u hq) (by unfold maxLen; omega) (by omega) hB
   obtain ⟨a,c,rfl⟩:=shp v' w' _ ho;exact ⟨a,c,w',hr,by rw [show kP (xs++l)=kP xs++kP l by simp [kP]]; exact ho,hg,hnb⟩
end
section
set_option linter.unusedVariables false
open Go.ChangeShapes Go.WideShapes Go.ChangeAt Go.RowKit
theorem str_inj {p q:ByteArray}(h:p.toList=q.toList):p=q:=by
 rw [Lib.toList_data,Lib.toList_data] at h;exact ByteArray.ext (Array.toList_inj.1 h)
theorem DX (p q:ByteArray):(p.toList == q.toList)=decide (p=q):=by
 by_cases h:p=q
 ·rw [h,decide_eq_true rfl]; simp
 rw [decide_eq_false h,beq_eq_false_iff_ne];exact fun e=>h (str_inj e)
def lo (a b:ByteArray):Bool:=Op.bytesLess a.toList b.toList
theorem vH (a b:ByteArray):lo a b=decide (a.toList<b.toList):=bytesLess_eq _ _
theorem dP (a:ByteArray):lo a a=false:=by rw [vH,decide_eq_false_iff_not]; exact List.lt_irrefl _
theorem iJ {a b c:ByteArray}(h:lo a b=true)(k:lo b c=true):lo a c=true:=by
 rw [vH,decide_eq_true_iff] at *;exact List.lt_trans h k
theorem jd {a b:ByteArray}(h:lo a b=true):lo b a=false:=by
 cases e:lo b a with
 | false=>rfl
 | true=>have:=iJ h e; rw [dP] at this; cases this
theorem vJ (a b:ByteArray):lo a b=true∨a=b∨lo b a=true:=by
 rw [vH,vH,decide_eq_true_iff,decide_eq_true_iff];by_cases h:a.toList<b.toList
 ·exact .inl h
 by_cases k:b.toList<a.toList
 ·exact .inr (.inr k)
 exact .inr (.inl (str_inj (List.le_antisymm k h)))
def SS (w:World)(v:Value)(l:List ByteArray):Prop :=
 ∃ a c,v = .slice a l.length c∧l.length≤c∧∀ (i:Nat) (s:ByteArray),l[i]? = some s→∃ b off,a=some ⟨b,off,none⟩∧w.cell? ⟨b,off+i,none⟩=some (.string s)
theorem SS.below {w w':World}{v:Value}{l:List ByteArray}(h:SS w v l)(hb:Below w.heap.size w w'):SS w' v l:=by
 obtain ⟨a,c,e,hc,h⟩:=h;refine ⟨a,c,e,hc,fun i q hq=>?_⟩;obtain ⟨b,off,h1,h2⟩:=h i q hq;exact ⟨b,off,h1,(hb.cell (p:=⟨b,off+i,none⟩) (block_lt_of_cell h2)).trans h2⟩
theorem abl (w:World):SS w (.slice none 0 0) []:=⟨none,0,rfl,Nat.le_refl _,fun i q hq=>by simp at hq⟩
theorem Lu {w:World}{B:Nat}{v:Value}{n:Nat}{l:List ByteArray}(h:w.ownsRow B 9 1 v n (l.map Value.string)):SS w v l:=by
 have hl:=h.1;rw [List.length_map,Nat.mul_one] at hl;subst hl;rcases h.2 with ⟨rfl,h0⟩ | ⟨g,cap,cur,rfl,hbase,hb,h1,h2,h3,h4⟩
 ·have:l=[]:=List.length_eq_zero_iff.1 h0
  subst this;exact ⟨none,0,rfl,Nat.le_refl _,fun i q hq=>by simp at hq⟩
 refine ⟨_,cap,rfl,h1,fun i q hq=>⟨g,0,rfl, ?_⟩⟩;have hi:i<l.length:=(List.getElem?_eq_some_iff.1 hq).1;have e:(l.map Value.string)[i]? = some (.string q):=by rw [List.getElem?_map,hq]; rfl
 rw [← h4,List.getElem?_take_of_lt (by omega),Array.getElem?_toList] at e;rw [Nat.zero_add];simp only [World.cell?,hb];simpa using e
theorem iK (b off len cap i:Nat)(h:i<len)(W:World):(Instr.indexAt 115 (.slice (some ⟨b,off,none⟩) len cap) (.int .i64 (i:Int))).run Tryz.prog W = .ok (.pointer (some ⟨b,off+i,none⟩)) W:=by
 obtain ⟨i0,hi,hs⟩:=Option.map_eq_some_iff.1 (show (Tryz.prog.info? 9).map (·.size)=some 1 by kernel_rfl);simp [Instr.indexAt,asIntOf,run_underlying Tryz.underlying115,sizeOf,typeInfo,hi,hs,h,Addr.add_mid]
end
section
set_option linter.unusedVariables false
open Go.ChangeShapes Go.WideShapes Go.ChangeAt Go.RowKit
structure az where
 lf:Bool
 ks:List ByteArray
 vs:List ByteArray
 ps:List ay
def je:az:=⟨false, [], [], []⟩
structure NR (w:World)(k v p:Value)(n:az):Prop where
 ks:SS w k n.ks
 vs:SS w v n.vs
 ps:PS w p n.ps
theorem NR.below {w w':World}{k v p:Value}{n:az}(h:NR w k v p n)(b:Below w.heap.size w w'):NR w' k v p n:=⟨h.ks.below b,h.vs.below b,h.ps.below b⟩
structure NB (n:az):Prop where
 kl:n.ks.length≤140737488351232
 kz:∀ s ∈ n.ks,s.size≤140737488351232
 vl:n.vs.length≤140737488351232
 vz:∀ s ∈ n.vs,s.size≤140737488351232
 pl:n.ps.length≤140737488351232
theorem ail (w:World):PS w (.slice none 0 0) []:=⟨none,0,rfl,fun i q hq=>by simp at hq⟩
theorem qw (w:World):NR w (.slice none 0 0) (.slice none 0 0) (.slice none 0 0) je:=⟨abl w,abl w,ail w⟩
theorem dS (x:Bool)(k v p:Value):(Tryz.prog.info? 118).map (·.size)=some (#[.bool x,k,v,p]:Array Value).size:=by rw [show (Tryz.prog.info? 118).map (·.size)=some 4 by kernel_rfl]; rfl
theorem dX {w:World}{g t:Nat}{x:Bool}{k v p:Value}{fr:Nat×Nat}(h:w.heap[g]? = some (.cells #[.bool x,k,v,p] t fr)) :
 w.cell? ⟨g,0,none⟩=some (.bool x)∧w.cell? ⟨g,1,none⟩=some k∧w.cell? ⟨g,2,none⟩=some v∧w.cell? ⟨g,3,none⟩=some p :=
 ⟨cell_of_row _ _ _ _ _ _ h,cell_of_row _ _ _ _ _ _ h,cell_of_row _ _ _ _ _ _ h,cell_of_row _ _ _ _ _ _ h⟩
def dB:ByteArray→List ByteArray→Bool
 | _, []=>true
 | a,k::r=>lo a k && decide (k.size≤32) && dB k r
def lY (s:ByteArray):Bool:=decide (s.size≤96)
def jq (q:ay):Bool := !(q.ad == 0) && decide (iE q 4096=0)
def jO (n:az):Bool:=if n.lf then decide (n.vs.length=n.ks.length) && decide (n.ps.length=0) else decide (0<n.ks.length) && decide (n.vs.length=0) && decide (n.ps.length=n.ks.length+1)
def jU (n:az):Bool:=jO n && dB ⟨#[]⟩ n.ks && n.vs.all lY && n.ps.all jq
def og:List ByteArray→Nat
 | []=>0
 | s::r=>1+s.size+og r
def lH (n:az):Nat:=2+og n.ks+og n.vs+44 * n.ps.length
def BZ (n:az):Int×Int:=if jU n then ((lH n:Nat),0) else (0,4)
def checkN (n:az):Int:=if jU n then (if lH n≤512 then 0 else 6) else 4
theorem aeY (l m:List ByteArray):og (l++m)=og l+og m:=by
 induction l with
 | nil=>simp [og]
 | cons s l ih=>simp only [List.cons_append,og,ih]; omega
theorem Fh (l:List ByteArray)(k:Nat)(h:∀ s ∈ l,s.size≤k):og l≤l.length * (k+1):=by
 induction l with
 | nil=>simp [og]
 | cons s l ih =>
   have h1:=h s (by simp);have h2:=ih (fun t ht=>h t (by simp [ht]));simp only [og,List.length_cons,Nat.add_mul];omega
theorem Cb:∀ (a:ByteArray) (l:List ByteArray),dB a l=true→∀ s ∈ l,s.size≤32
 | _, [],_,s,hs=>by simp at hs
 | a,k::r,h,s,hs=>by
   unfold dB at h;simp only [Bool.and_eq_true,decide_eq_true_eq] at h;rcases List.mem_cons.1 hs with rfl | hs
   ·exact h.1.2
   exact Cb k r h.2 s hs
theorem pJ {n:az}(h:jU n=true):(∀ s ∈ n.ks,s.size≤32)∧(∀ s ∈ n.vs,s.size≤96):=by
 unfold jU at h;simp only [Bool.and_eq_true] at h;exact ⟨Cb _ _ h.1.1.2,fun s hs=>by have:=List.all_eq_true.1 h.1.2 s hs; simpa [lY] using this⟩
theorem OD (u:Value)(l:List ByteArray)(w:World)(h:SS w u l)(hl:l.length≤140737488351232)(hz:∀ s ∈ l,s.size≤96) :
 Calls Tryz.prog 151 #[u] w fun e w'=>e = .returned (.int .i64 (og l:Nat))∧w'=w:=by
 obtain ⟨a,c,rfl,hc,h1⟩:=h
 clear hc
 obtain ⟨n,hn⟩:∃ n,l.length=n:=⟨_,rfl⟩
 have H1:=hid h1
 have HN:=hid hn
 have HZ:=hid hz
 rw [hn] at hl ⊢
 have lI:(n:Int)≤140737488351232:=by omega
 have HX:=hid (show ∀ i,i≤n→og (l.take i)≤13651536370069504 from fun i hi=>by
  have:=Fh (l.take i) 96 (fun s hs=>hz s (List.mem_of_mem_take hs));rw [List.length_take] at this;omega)
 have HE:=hid (show og (l.take n)=og l by rw [← hn,List.take_length])
 clear h1 hz hn hl
 go_in
 go_wp2_with fail
 go_loopw [3,5,8] (fun v3 _ v8 wr=>∃ i:Nat,i≤n∧v8 = .int .i64 (i:Int)∧v3 = .int .i64 ((og (l.take i):Nat):Int)∧wr=w) (fun _ _ v _=>n - (intOf v).toNat)
 case atStart=>exact ⟨0,by omega,rfl,rfl,rfl⟩
 case round =>
  obtain ⟨i,hi,rfl,rfl,rfl⟩:=hrel;by_cases hlt:i<n
  ·obtain ⟨p,hp⟩:∃ p,l[i]? = some p:=⟨_,List.getElem?_eq_getElem (by have:=HN.out; omega)⟩
   obtain ⟨b1,o1,rfl,g1⟩:=H1.out i p hp;have hix:=iK b1 o1 n c i hlt;have HS:=hid (show og (l.take (i+1))=og (l.take i)+(1+p.size) by rw [List.take_add_one,hp,aeY]; simp [og]);have hps:=HZ.out p (List.mem_of_getElem? hp);have psI:(p.size:Int)≤96:=by omega
   have hx1:((og (l.take i):Nat):Int)≤13651536370069504:=by have:=HX.out i hi; omega
   have hx0:(0:Int)≤((og (l.take i):Nat):Int):=by omega
   have bn:=hid hlt;have iI:(i:Int)<(n:Int):=by omega
   have i0:(0:Int)≤(i:Int):=by omega
   generalize og (l.take i)=T at *;clear hi hlt hp hps;go_wp2_with fail;go_roundw
   case rel=>exact ⟨i+1,by have:=bn.out; omega,by go_num,by rw [HS.out]; go_num,trivial⟩
   case measure=>simp [intOf]; have:=bn.out; omega
  obtain rfl:i=n:=by omega
  clear hi hlt;have hx1:((og (l.take i):Nat):Int)≤13651536370069504:=by have:=HX.out i (Nat.le_refl _); omega
  go_wp2_with fail;go_ret;rw [HE.out];exact ⟨rfl,rfl⟩
end
section
set_option linter.unusedVariables false
open Go.ChangeShapes Go.WideShapes Go.ChangeAt Go.RowKit
theorem Yd (a s:ByteArray):(lo a s=true∧Op.bytesLess s.toList a.toList=false∧(s.toList == a.toList)=false)∨(lo a s=false∧Op.bytesLess s.toList a.toList=true∧(s.toList == a.toList)=false)∨(lo a s=false∧Op.bytesLess s.toList a.toList=false∧(s.toList == a.toList)=true):=by
 have ne:∀ {x y:ByteArray},lo x y=true→x ≠ y:=fun h e=>by rw [e,dP] at h; cases h
 rcases vJ a s with h | h | h
 ·exact .inl ⟨h,jd h,by rw [DX,decide_eq_false (ne h).symm]⟩
 ·subst h
  exact .inr (.inr ⟨dP _,dP _,by rw [DX,decide_eq_true rfl]⟩)
 exact .inr (.inl ⟨jd h,h,by rw [DX,decide_eq_false (ne h)]⟩)
theorem TB (B:Nat)(a s:ByteArray)(w:World)(h:w.heap[B]? = some (.cells #[.string a] 9 (0,0)))(hs:s.size≤140737488351232) :
 Calls Tryz.prog 158 #[.string s,.pointer (some ⟨B,0,none⟩)] w fun e w'=>e = .returned (.bool (!(lo a s && decide (s.size≤32))))∧w'=w.setCell ⟨B,0,none⟩ (.string s):=by
 have c0:=cell_of_row _ B 0 _ _ _ h
 have f0:=frozen_of_row w B 0 _ _ h
 simp at c0
 have hsI:(s.size:Int)≤140737488351232:=by omega
 have hd:decide ((s.size:Int) > 32) = !decide (s.size≤32):=by
  by_cases e:s.size≤32
  ·rw [decide_eq_true e]; simp; omega
  rw [decide_eq_false e]; simp; omega
 have fin:∀ (x y z:Bool),Op.bytesLess s.toList a.toList=x→(s.toList == a.toList)=y→decide ((32:Int)<(s.size:Int))=z→(!(lo a s && decide (s.size≤32)))=(x || y || z) →
  Calls Tryz.prog 158 #[.string s,.pointer (some ⟨B,0,none⟩)] w fun e w'=>e = .returned (.bool (!(lo a s && decide (s.size≤32))))∧w'=w.setCell ⟨B,0,none⟩ (.string s):=by
  intro x y z h1 h2 h3 h4
  rw [h4]
  clear h4 h hs hd
  cases x <;> cases y <;> cases z <;>
  ·go_in
   go_wp2_with fail;go_ret;exact ⟨rfl,rfl⟩
 obtain ⟨h1,h2,h3⟩ | ⟨h1,h2,h3⟩ | ⟨h1,h2,h3⟩:=Yd a s
 ·exact fin _ _ _ h2 h3 rfl (by rw [h1]; simp only [Bool.true_and,Bool.false_or]; rw [show decide ((32:Int)<(s.size:Int)) = !decide (s.size≤32) from hd])
 ·exact fin _ _ _ h2 h3 rfl (by rw [h1]; simp)
 ·exact fin _ _ _ h2 h3 rfl (by rw [h1]; simp)
theorem TC (s:ByteArray)(w:World)(hs:s.size≤140737488351232) :
 Calls Tryz.prog 159 #[.string s] w fun e w'=>e = .returned (.bool (!lY s))∧w'=w:=by
 have hsI:(s.size:Int)≤140737488351232:=by omega
 have hd:lY s = !decide ((96:Int)<(s.size:Int)):=by
  unfold lY;by_cases e:s.size≤96
  ·rw [decide_eq_true e]; simp; omega
  rw [decide_eq_false e]; simp; omega
 rw [hd]
 clear hd hs
 go_in
 go_wp2_with fail
 go_ret
 exact ⟨by simp,rfl⟩
theorem TD (q:ay)(w:World) :
 Calls Tryz.prog 160 #[.agg (ag q).toArray] w fun e w'=>e = .returned (.bool (!jq q))∧Below w.heap.size w w':=by
 have HB:=hid ((Below.refl w.heap.size w).alloc (Nat.le_refl _) (.cells (ag q).toArray 51))
 have HA:=hid (heap_alloc_new w (.cells (ag q).toArray 51))
 have HT:=hid (show w.heap.size<(w.alloc (.cells (ag q).toArray 51)).heap.size by simp)
 have SE:=hid (cZ q)
 have HN:=hid (fun W=>dR q W)
 have HC:=hid (fun W=>pF q 4096 W)
 have hk:jq q=(!(q.ad == 0) && decide (iE q 4096=0)):=rfl
 have hck:iE q 4096=0∨iE q 4096=4:=by unfold iE; split <;> simp
 rw [hk]
 clear hk
 generalize (ag q).toArray=AR at *
 generalize hz:(q.ad == 0)=z at *
 generalize iE q 4096=ce at *
 clear hz
 go_in
 go_wp2_with (first
  | (with_reducible refine wpList_load_row (o:=⟨some 3,_,_,_,_,_⟩) rfl 51 _ rfl w.heap.size rfl 51 AR (0,0) _ HA.out Tryz.underlying51 rfl SE.out ?_))
 refine (HN.out _).mono ?_
 rintro e w2 ⟨rfl,hb2⟩
 have HA2:=hid ((hb2.block w.heap.size HT.out).trans HA.out)
 have HB2:=hid (HB.out.trans (hb2.mono HB.out.size))
 clear hb2 HA HB HT HN
 cases z with
 | true =>
   clear hck;go_wp2_with fail;go_ret;exact ⟨rfl,HB2.out⟩
 | false =>
   go_wp2_with (first
    | (with_reducible refine jW (o:=⟨some 6,_,_,_,_,_⟩) (by kernel_rfl) 51 _ rfl w.heap.size rfl 51 AR (0,0) _ HA2.out Tryz.underlying51 rfl SE.out ?_))
   refine (HC.out _).mono ?_;rintro e w3 ⟨rfl,hb3⟩;have HB3:=hid (HB2.out.trans (hb3.mono HB2.out.size));clear hb3 HA2 HB2;rcases hck with rfl | rfl
   ·go_wp2_with fail
    go_ret;exact ⟨rfl,HB3.out⟩
   go_wp2_with fail;go_ret;exact ⟨rfl,HB3.out⟩
theorem aeZ (u:Value)(l:List ByteArray)(w0 w:World)(B:Nat)(hu:SS w0 u l)(hl:l.length≤140737488351232)(hz:∀ s ∈ l,s.size≤140737488351232)(hB:w0.heap.size≤B)(hb:Below w0.heap.size w0 w)(hc0:w.heap[B]? = some (.cells #[.string ⟨#[]⟩] 9 (0,0))) :
 Calls Tryz.prog 166 #[u,.func (.func 158) #[] #[.pointer (some ⟨B,0,none⟩)]] w fun e w'=>∃ r:Int,e = .returned (.int .i64 r)∧decide (0≤r) = !(dB ⟨#[]⟩ l)∧Below w0.heap.size w0 w':=by
 obtain ⟨a,c,rfl,hc,h1⟩:=hu
 obtain ⟨n,hn⟩:∃ n,l.length=n:=⟨_,rfl⟩
 have H1:=hid h1
 have HN:=hid hn
 have HZ:=hid hz
 have XN:=hid hB
 have HB0:=hid hb
 have HC0:=hid hc0
 rw [hn] at hl ⊢
 have lI:(n:Int)≤140737488351232:=by omega
 clear h1 hn hl hz hB hb hc0
 go_in
 go_wp2_with fail
 go_loopw [5,8] (fun _ v8 wr=>∃ i:Nat,i≤n∧v8 = .int .i64 (i:Int)∧∃ a,wr.heap[B]? = some (.cells #[.string a] 9 (0,0))∧dB ⟨#[]⟩ l=dB a (l.drop i)∧Below w0.heap.size w0 wr) (fun _ v _=>n - (intOf v).toNat)
 case atStart=>exact ⟨0,by omega,rfl,⟨#[]⟩,HC0.out,by rw [List.drop_zero],HB0.out⟩
 case round =>
  obtain ⟨i,hi,rfl,a,hcw,hrs,hbw⟩:=hrel;by_cases hlt:i<n
  ·obtain ⟨p,hp⟩:∃ p,l[i]? = some p:=⟨_,List.getElem?_eq_getElem (by have:=HN.out; omega)⟩
   obtain ⟨b1,o1,rfl,g1⟩:=H1.out i p hp;have hdr:l.drop i=p::l.drop (i+1):=by
    obtain ⟨hx,rfl⟩:=List.getElem?_eq_some_iff.1 hp;exact List.drop_eq_getElem_cons hx
   have hix:=iK b1 o1 n c i hlt;have g1':=(hbw.cell (p:=⟨b1,o1+i,none⟩) (block_lt_of_cell g1)).trans g1;have HK:=hid (TB B a p wr hcw (HZ.out p (List.mem_of_getElem? hp)));have HR:=hid (show dB ⟨#[]⟩ l=((lo a p && decide (p.size≤32)) && dB p (l.drop (i+1))) by rw [hrs,hdr]; rfl);have HW:=hid (show (wr.setCell ⟨B,0,none⟩ (.string p)).heap[B]? = some (.cells #[.string p] 9 (0,0)) from heap_setCell_same _ _ _ _ _ _ hcw);have HB:=hid (hbw.setCell (p:=⟨B,0,none⟩) XN.out (.string p));have bn:=hid hlt;have iI:(i:Int)<(n:Int):=by omega
   have i0:(0:Int)≤(i:Int):=by omega
   clear hi hlt hp hdr g1 hcw hrs hbw;go_wp2_with fail;refine HK.out.mono ?_;rintro e w2 ⟨rfl,rfl⟩;clear HK;cases hg:(lo a p && decide (p.size≤32)) with
   | false =>
     go_wp2_with fail;go_ret;exact ⟨(i:Int),rfl,by rw [HR.out,hg]; simp,HB.out⟩
   | true =>
     go_wp2_with fail;go_roundw
     case rel=>exact ⟨i+1,by have:=bn.out; omega,by go_num,p,HW.out,by rw [HR.out,hg,Bool.true_and],HB.out⟩
     case measure=>simp [intOf]; have:=bn.out; omega
  obtain rfl:i=n:=by omega
  have HE:=hid (show dB ⟨#[]⟩ l=true by rw [hrs,List.drop_eq_nil_of_le (by have:=HN.out; omega)]; rfl);have HB:=hid hbw;clear hi hlt hcw hrs hbw;go_wp2_with fail;go_ret;exact ⟨-1,rfl,by rw [HE.out]; decide,HB.out⟩
theorem abm (u:Value)(l:List ByteArray)(w0 w:World)(B:Nat)(hu:SS w0 u l)(hl:l.length≤140737488351232)(hz:∀ s ∈ l,s.size≤140737488351232)(hB:w0.heap.size≤B)(hb:Below w0.heap.size w0 w)(hc0:w.heap[B]? = some (.cells #[.string ⟨#[]⟩] 9 (0,0))) :
 Calls Tryz.prog 162 #[u,.func (.func 158) #[] #[.pointer (some ⟨B,0,none⟩)]] w fun e w'=>e = .returned (.bool (!(dB ⟨#[]⟩ l)))∧Below w0.heap.size w0 w':=by
 have HX:=hid (aeZ u l w0 w B hu hl hz hB hb hc0)
 clear hu hl hz hB hb hc0
 go_in
 go_wp2_with fail
 refine HX.out.mono ?_
 rintro e w1 ⟨r,rfl,hr,hb⟩
 have HB:=hid hb
 clear HX hb
 cases hq:(dB ⟨#[]⟩ l) with
 | true =>
   have hr0:decide (0≤r)=false:=by rw [hr,hq]; rfl
   have HQ:=hid hq;clear hr hq;go_wp2_with fail;go_ret;rw [HQ.out];exact ⟨rfl,HB.out⟩
 | false =>
   have hr0:decide (0≤r)=true:=by rw [hr,hq]; rfl
   have HQ:=hid hq;clear hr hq;go_wp2_with fail;go_ret;rw [HQ.out];exact ⟨rfl,HB.out⟩
theorem ae0 (u:Value)(l:List ByteArray)(w0 w:World)(hu:SS w0 u l)(hl:l.length≤140737488351232)(hz:∀ s ∈ l,s.size≤140737488351232)(hb:Below w0.heap.size w0 w) :
 Calls Tryz.prog 166 #[u,.func (.func 159) #[] #[]] w fun e w'=>∃ r:Int,e = .returned (.int .i64 r)∧decide (0≤r) = !(l.all lY)∧Below w0.heap.size w0 w':=by
 obtain ⟨a,c,rfl,hc,h1⟩:=hu
 obtain ⟨n,hn⟩:∃ n,l.length=n:=⟨_,rfl⟩
 have H1:=hid h1
 have HN:=hid hn
 have HZ:=hid hz
 have HB0:=hid hb
 rw [hn] at hl ⊢
 have lI:(n:Int)≤140737488351232:=by omega
 clear h1 hn hl hz hb
 go_in
 go_wp2_with fail
 go_loopw [5,8] (fun _ v8 wr=>∃ i:Nat,i≤n∧v8 = .int .i64 (i:Int)∧l.all lY=(l.drop i).all lY∧Below w0.heap.size w0 wr) (fun _ v _=>n - (intOf v).toNat)
 case atStart=>exact ⟨0,by omega,rfl,by rw [List.drop_zero],HB0.out⟩
 case round =>
  obtain ⟨i,hi,rfl,hrs,hbw⟩:=hrel;by_cases hlt:i<n
  ·obtain ⟨p,hp⟩:∃ p,l[i]? = some p:=⟨_,List.getElem?_eq_getElem (by have:=HN.out; omega)⟩
   obtain ⟨b1,o1,rfl,g1⟩:=H1.out i p hp;have hdr:l.drop i=p::l.drop (i+1):=by
    obtain ⟨hx,rfl⟩:=List.getElem?_eq_some_iff.1 hp;exact List.drop_eq_getElem_cons hx
   have hix:=iK b1 o1 n c i hlt;have g1':=(hbw.cell (p:=⟨b1,o1+i,none⟩) (block_lt_of_cell g1)).trans g1;have HK:=hid (TC p wr (HZ.out p (List.mem_of_getElem? hp)));have HR:=hid (show l.all lY=(lY p && (l.drop (i+1)).all lY) by rw [hrs,hdr]; rfl);have HB:=hid hbw;have bn:=hid hlt;have iI:(i:Int)<(n:Int):=by omega
   have i0:(0:Int)≤(i:Int):=by omega
   clear hi hlt hp hdr g1 hrs hbw;go_wp2_with fail;refine HK.out.mono ?_;rintro e w2 ⟨rfl,rfl⟩;clear HK;cases hg:lY p with
   | false =>
     go_wp2_with fail;go_ret;exact ⟨(i:Int),rfl,by rw [HR.out,hg]; simp,HB.out⟩
   | true =>
     go_wp2_with fail;go_roundw
     case rel=>exact ⟨i+1,by have:=bn.out; omega,by go_num,by rw [HR.out,hg,Bool.true_and],HB.out⟩
     case measure=>simp [intOf]; have:=bn.out; omega
  obtain rfl:i=n:=by omega
  have HE:=hid (show l.all lY=true by rw [hrs,List.drop_eq_nil_of_le (by have:=HN.out; omega)]; rfl);have HB:=hid hbw;clear hi hlt hrs hbw;go_wp2_with fail;go_ret;exact ⟨-1,rfl,by rw [HE.out]; decide,HB.out⟩
theorem abn (u:Value)(l:List ByteArray)(w0 w:World)(hu:SS w0 u l)(hl:l.length≤140737488351232)(hz:∀ s ∈ l,s.size≤140737488351232)(hb:Below w0.heap.size w0 w) :
 Calls Tryz.prog 162 #[u,.func (.func 159) #[] #[]] w fun e w'=>e = .returned (.bool (!(l.all lY)))∧Below w0.heap.size w0 w':=by
 have HX:=hid (ae0 u l w0 w hu hl hz hb)
 clear hu hl hz hb
 go_in
 go_wp2_with fail
 refine HX.out.mono ?_
 rintro e w1 ⟨r,rfl,hr,hb⟩
 have HB:=hid hb
 clear HX hb
 cases hq:(l.all lY) with
 | true =>
   have hr0:decide (0≤r)=false:=by rw [hr,hq]; rfl
   have HQ:=hid hq;clear hr hq;go_wp2_with fail;go_ret;rw [HQ.out];exact ⟨rfl,HB.out⟩
 | false =>
   have hr0:decide (0≤r)=true:=by rw [hr,hq]; rfl
   have HQ:=hid hq;clear hr hq;go_wp2_with fail;go_ret;rw [HQ.out];exact ⟨rfl,HB.out⟩
theorem ae1 (u:Value)(l:List ay)(w0 w:World)(hu:PS w0 u l)(hl:l.length≤140737488351232)(hb:Below w0.heap.size w0 w) :
 Calls Tryz.prog 167 #[u,.func (.func 160) #[] #[]] w fun e w'=>∃ r:Int,e = .returned (.int .i64 r)∧decide (0≤r) = !(l.all jq)∧Below w0.heap.size w0 w':=by
 obtain ⟨a,c,rfl,h1⟩:=hu
 obtain ⟨n,hn⟩:∃ n,l.length=n:=⟨_,rfl⟩
 have H1:=hid h1
 have HN:=hid hn
 have HB0:=hid hb
 rw [hn] at hl ⊢
 have lI:(n:Int)≤140737488351232:=by omega
 clear h1 hn hl hb
 go_in
 go_wp2_with fail
 go_loopw [5,8] (fun _ v8 wr=>∃ i:Nat,i≤n∧v8 = .int .i64 (i:Int)∧l.all jq=(l.drop i).all jq∧Below w0.heap.size w0 wr) (fun _ v _=>n - (intOf v).toNat)
 case atStart=>exact ⟨0,by omega,rfl,by rw [List.drop_zero],HB0.out⟩
 case round =>
  obtain ⟨i,hi,rfl,hrs,hbw⟩:=hrel;by_cases hlt:i<n
  ·obtain ⟨p,hp⟩:∃ p,l[i]? = some p:=⟨_,List.getElem?_eq_getElem (by have:=HN.out; omega)⟩
   obtain ⟨b1,o1,rfl,g1⟩:=H1.out i p hp;have hdr:l.drop i=p::l.drop (i+1):=by
    obtain ⟨hx,rfl⟩:=List.getElem?_eq_some_iff.1 hp;exact List.drop_eq_getElem_cons hx
   have hix:=rF b1 o1 n c i hlt;have lW:=hid (dm g1 hbw);have HK:=hid (TD p wr);have HR:=hid (show l.all jq=(jq p && (l.drop (i+1)).all jq) by rw [hrs,hdr]; rfl);have qY:=hid hbw;have DY:=hid (dL p);have bn:=hid hlt;have iI:(i:Int)<(n:Int):=by omega
   have i0:(0:Int)≤(i:Int):=by omega
   clear hi hlt hp hdr g1 hrs hbw;go_wp2_with (first
    | (with_reducible refine wpList_load_mid (op:=⟨some 15,_,_,_,_,_⟩) rfl 51 _ rfl b1 (o1+i * 34) rfl (ag p) _ lW.out Tryz.underlying51 rfl DY.out ?_))
   refine HK.out.mono ?_;rintro e w2 ⟨rfl,hb2⟩;have HB:=hid (qY.out.trans (hb2.mono qY.out.size));clear HK hb2 qY lW DY;cases hg:jq p with
   | false =>
     go_wp2_with fail;go_ret;exact ⟨(i:Int),rfl,by rw [HR.out,hg]; simp,HB.out⟩
   | true =>
     go_wp2_with fail;go_roundw
     case rel=>exact ⟨i+1,by have:=bn.out; omega,by go_num,by rw [HR.out,hg,Bool.true_and],HB.out⟩
     case measure=>simp [intOf]; have:=bn.out; omega
  obtain rfl:i=n:=by omega
  have HE:=hid (show l.all jq=true by rw [hrs,List.drop_eq_nil_of_le (by have:=HN.out; omega)]; rfl);have HB:=hid hbw;clear hi hlt hrs hbw;go_wp2_with fail;go_ret;exact ⟨-1,rfl,by rw [HE.out]; decide,HB.out⟩
theorem abo (u:Value)(l:List ay)(w0 w:World)(hu:PS w0 u l)(hl:l.length≤140737488351232)(hb:Below w0.heap.size w0 w) :
 Calls Tryz.prog 163 #[u,.func (.func 160) #[] #[]] w fun e w'=>e = .returned (.bool (!(l.all jq)))∧Below w0.heap.size w0 w':=by
 have HX:=hid (ae1 u l w0 w hu hl hb)
 clear hu hl hb
 go_in
 go_wp2_with fail
 refine HX.out.mono ?_
 rintro e w1 ⟨r,rfl,hr,hb⟩
 have HB:=hid hb
 clear HX hb
 cases hq:(l.all jq) with
 | true =>
   have hr0:decide (0≤r)=false:=by rw [hr,hq]; rfl
   have HQ:=hid hq;clear hr hq;go_wp2_with fail;go_ret;rw [HQ.out];exact ⟨rfl,HB.out⟩
 | false =>
   have hr0:decide (0≤r)=true:=by rw [hr,hq]; rfl
   have HQ:=hid hq;clear hr hq;go_wp2_with fail;go_ret;rw [HQ.out];exact ⟨rfl,HB.out⟩
end
section
set_option linter.unusedVariables false
open Go.ChangeShapes Go.WideShapes Go.ChangeAt Go.RowKit
theorem SS.shape {w:World}{v:Value}{l:List ByteArray}(h:SS w v l):∃ a c,v = .slice a l.length c:=by obtain ⟨a,c,e,_⟩:=h; exact ⟨a,c,e⟩
theorem PS.shape {w:World}{v:Value}{l:List ay}(h:PS w v l):∃ a c,v = .slice a l.length c:=by obtain ⟨a,c,e,_⟩:=h; exact ⟨a,c,e⟩
theorem zu (a b:Nat):((a:Int) == (b:Int))=decide (a=b):=by
 by_cases h:a=b
 ·rw [h]; simp
 rw [decide_eq_false h]; simp; omega
theorem OE (k v p:Value)(n:az)(w:World)(h:NR w k v p n)(hn:NB n) :
 Calls Tryz.prog 161 #[.agg #[.bool n.lf,k,v,p]] w fun e w'=>e = .returned (.bool (jO n))∧Below w.heap.size w w':=by
 obtain ⟨ak,ck,rfl⟩:=h.ks.shape
 obtain ⟨av,cv,rfl⟩:=h.vs.shape
 obtain ⟨ap,cp,rfl⟩:=h.ps.shape
 have kI:(n.ks.length:Int)≤140737488351232:=by have:=hn.kl; omega
 have vI:(n.vs.length:Int)≤140737488351232:=by have:=hn.vl; omega
 have pI:(n.ps.length:Int)≤140737488351232:=by have:=hn.pl; omega
 have HE:=hid (show jO n=if n.lf then (((n.vs.length:Int) == (n.ks.length:Int)) && ((n.ps.length:Int) == 0)) else (decide (0<n.ks.length) && ((n.vs.length:Int) == 0) && ((n.ps.length:Int) == (n.ks.length:Int)+1)) by
  unfold jO;have e0:∀ a:Nat,((a:Int) == 0)=decide (a=0):=fun a=>zu a 0;have e1:((n.ps.length:Int) == (n.ks.length:Int)+1)=decide (n.ps.length=n.ks.length+1):=zu _ (n.ks.length+1);rw [e0,e0,e1,zu])
 have HB:=hid ((Below.refl w.heap.size w).alloc (Nat.le_refl _) (.cells #[.bool n.lf,.slice ak n.ks.length ck,.slice av n.vs.length cv,.slice ap n.ps.length cp] 118))
 obtain ⟨c0,c1,c2,c3⟩:=dX (heap_alloc_new w (.cells #[.bool n.lf,.slice ak n.ks.length ck,.slice av n.vs.length cv,.slice ap n.ps.length cp] 118))
 have k0:(0:Int)≤(n.ks.length:Int):=by omega
 rw [HE.out]
 clear h hn HE
 generalize n.ks.length=K at *
 generalize n.vs.length=V at *
 generalize n.ps.length=Q at *
 generalize n.lf=L at *
 cases L with
 | true =>
   rw [if_pos rfl];have fin:∀ (x y:Bool),((V:Int) == (K:Int))=x→((Q:Int) == 0)=y →
    Calls Tryz.prog 161 #[.agg #[.bool true,.slice ak K ck,.slice av V cv,.slice ap Q cp]] w fun e w'=>e = .returned (.bool (x && y))∧Below w.heap.size w w':=by
    intro x y h1 h2
    cases x <;> cases y <;>
    ·go_in
     go_wp2_with fail;all_goals (go_ret; exact ⟨rfl,HB.out⟩)
   exact fin _ _ rfl rfl
 | false =>
   rw [if_neg (by decide)];have fin:∀ (x y z:Bool),decide (0<K)=x→((V:Int) == 0)=y→((Q:Int) == (K:Int)+1)=z →
    Calls Tryz.prog 161 #[.agg #[.bool false,.slice ak K ck,.slice av V cv,.slice ap Q cp]] w fun e w'=>e = .returned (.bool (x && y && z))∧Below w.heap.size w w':=by
    intro x y z h1 h2 h3
    cases x <;> cases y <;> cases z <;>
    ·go_in
     go_wp2_with fail;all_goals (go_ret; exact ⟨rfl,HB.out⟩)
   exact fin _ _ _ rfl rfl rfl
theorem Ye (k v p:Value)(n:az)(w:World)(h:NR w k v p n)(hn:NB n) :
 Calls Tryz.prog 150 #[.agg #[.bool n.lf,k,v,p]] w fun e w'=>e = .returned (.bool (jU n))∧Below w.heap.size w w':=by
 have two:∀ (lf:Bool),∃ (w1 w2:World),w1=w.alloc (.cells #[.bool lf,k,v,p] 118)∧w2=w1.alloc (.cells #[.string ⟨#[]⟩] 9)∧w1.heap.size=w.heap.size+1∧w1.heap[w.heap.size]? = some (.cells #[.bool lf,k,v,p] 118 (0,0))∧w2.heap[w.heap.size+1]? = some (.cells #[.string ⟨#[]⟩] 9 (0,0))∧Below w1.heap.size w1 w2∧Below w.heap.size w w1:=by
  intro lf;have hb1:=(Below.refl w.heap.size w).alloc (Nat.le_refl _) (.cells #[.bool lf,k,v,p] 118);have hs1:(w.alloc (.cells #[.bool lf,k,v,p] 118)).heap.size=w.heap.size+1:=by simp
  refine ⟨_,_,rfl,rfl,hs1,heap_alloc_new w _, ?_,(Below.refl _ _).alloc (Nat.le_refl _) _,hb1⟩;rw [← hs1];exact heap_alloc_new _ _
 obtain ⟨w1,w2,hw1,hw2,hs1,hA1,hA2,hb2,hb1⟩:=two n.lf
 have h1:=h.below hb1
 have HC:=hid (fun W (b:Below w1.heap.size w1 W)=>OE k v p n W (h1.below b) hn)
 have HK:=hid (fun W (b:Below w1.heap.size w1 W) (hc:W.heap[w.heap.size+1]? = some (.cells #[.string ⟨#[]⟩] 9 (0,0)))=>abm k n.ks w1 W (w.heap.size+1) h1.ks hn.kl hn.kz (by omega) b hc)
 have HV:=hid (fun W (b:Below w1.heap.size w1 W)=>abn v n.vs w1 W h1.vs hn.vl hn.vz b)
 have HP:=hid (fun W (b:Below w1.heap.size w1 W)=>abo p n.ps w1 W h1.ps hn.pl b)
 have HE:=hid (show jU n=(jO n && dB ⟨#[]⟩ n.ks && n.vs.all lY && n.ps.all jq) from rfl)
 have SE:=hid (dS n.lf k v p)
 have HAT:=hid (fun W (b:Below w1.heap.size w1 W)=>(b.block w.heap.size (by omega)).trans hA1)
 have HB1:=hid (show ∀ W,Below w1.heap.size w1 W→Below w.heap.size w W from fun W b=>hb1.trans (b.mono (by omega)))
 rw [HE.out]
 generalize jO n=cb at *
 generalize dB ⟨#[]⟩ n.ks=kb at *
 generalize n.vs.all lY=vb at *
 generalize n.ps.all jq=pb at *
 generalize n.lf=lf at *
 clear h h1 hn HE two hb1 hA1
 go_in
 go_upto_region 5 with fail
 try simp only [← hw1,← hw2]
 clear hw1 hw2
 have HB2:=hid hb2
 have HC2:=hid (HC.out w2 hb2)
 have HA1:=hid (HAT.out w2 hb2)
 have HA2:=hid hA2
 have HS2:=hid (show w.heap.size+1<w2.heap.size from (Array.getElem?_eq_some_iff.1 hA2).1)
 have TE:=hid hs1
 clear hA2 hb2 HC hs1
 go_wp2_with (first
  | (with_reducible refine wpList_load_row (o:=⟨some 8,_,_,_,_,_⟩) rfl 118 _ rfl w.heap.size rfl 118 #[.bool lf,k,v,p] (0,0) _ HA1.out Tryz.underlying118 rfl SE.out ?_))
 refine HC2.out.mono ?_
 rintro e w3 ⟨rfl,hb3⟩
 have HB3:=hid (HB2.out.trans (hb3.mono HB2.out.size))
 have BI:=hid ((hb3.block _ HS2.out).trans HA2.out)
 have c1:=(dX (HAT.out w3 HB3.out)).2.1
 clear hb3 HB2 HA1 HA2 HC2
 cases cb with
 | false =>
   clear HK HV HP c1;go_wp2_with fail;go_ret;exact ⟨rfl,HB1.out _ HB3.out⟩
 | true =>
   have HKK:=hid (HK.out w3 HB3.out BI.out);clear HK BI HB3;go_wp2_with fail;refine HKK.out.mono ?_;rintro e w4 ⟨rfl,hb4⟩;have HB4:=hid hb4;have c2:=(dX (HAT.out w4 hb4)).2.2.1;clear HKK hb4 c1;cases kb with
   | false =>
     clear HV HP c2;go_wp2_with fail;go_ret;exact ⟨rfl,HB1.out _ HB4.out⟩
   | true =>
     have HVV:=hid (HV.out w4 HB4.out);clear HV HB4;go_wp2_with fail;refine HVV.out.mono ?_;rintro e w5 ⟨rfl,hb5⟩;have gp:=hid hb5;have c3:=(dX (HAT.out w5 hb5)).2.2.2;clear HVV hb5 c2;cases vb with
     | false =>
       clear HP c3;go_wp2_with fail;go_ret;exact ⟨rfl,HB1.out _ gp.out⟩
     | true =>
       have HPP:=hid (HP.out w5 gp.out);clear HP gp;go_wp2_with fail;refine HPP.out.mono ?_;rintro e w6 ⟨rfl,hb6⟩;have lu:=hid hb6;clear HPP hb6 c3;cases pb with
       | false =>
         go_wp2_with fail;go_ret;exact ⟨rfl,HB1.out _ lu.out⟩
       | true =>
         go_wp2_with fail;go_ret;exact ⟨rfl,HB1.out _ lu.out⟩
theorem Yf (k v p:Value)(n:az)(w:World)(h:NR w k v p n)(hn:NB n) :
 Calls Tryz.prog 130 #[.agg #[.bool n.lf,k,v,p]] w fun e w'=>e = .returned (.tuple #[.int .i64 (BZ n).1,.int .i64 (BZ n).2])∧Below w.heap.size w w':=by
 have hb1:=(Below.refl w.heap.size w).alloc (Nat.le_refl _) (.cells #[.bool n.lf,k,v,p] 118)
 have HA1:=hid (heap_alloc_new w (.cells #[.bool n.lf,k,v,p] 118))
 have HT:=hid (show w.heap.size<(w.alloc (.cells #[.bool n.lf,k,v,p] 118)).heap.size by simp)
 have HF:=hid (Ye k v p n _ (h.below hb1) hn)
 have HB1:=hid hb1
 have SE:=hid (dS n.lf k v p)
 have HE:=hid (show BZ n=if jU n then (((lH n:Nat):Int),0) else (0,4) from rfl)
 cases hf:jU n with
 | false =>
   rw [hf] at HF HE;rw [show BZ n=(0,4) from HE.out];clear h hn hb1 hf HE;generalize n.lf=lf at *;go_in;go_wp2_with (first
    | (with_reducible refine wpList_load_row (o:=⟨some 4,_,_,_,_,_⟩) rfl 118 _ rfl w.heap.size rfl 118 #[.bool lf,k,v,p] (0,0) _ HA1.out Tryz.underlying118 rfl SE.out ?_))
   refine HF.out.mono ?_;rintro e w3 ⟨rfl,hb3⟩;have HB3:=hid (HB1.out.trans (hb3.mono HB1.out.size));clear hb3 HF HB1 HA1;go_wp2_with fail;go_ret2;exact ⟨rfl,HB3.out⟩
 | true =>
   rw [hf] at HF HE;rw [show BZ n=(((lH n:Nat):Int),0) from HE.out];obtain ⟨hk,hv⟩:=pJ hf;have Aq:=hid (fun W (b:Below w.heap.size w W)=>OD k n.ks W (h.ks.below b) hn.kl (fun s hs=>Nat.le_trans (hk s hs) (by decide)));have HTV:=hid (fun W (b:Below w.heap.size w W)=>OD v n.vs W (h.vs.below b) hn.vl hv);obtain ⟨ap,cp,rfl⟩:=h.ps.shape;have hsz:lH n=2+og n.ks+og n.vs+44 * n.ps.length:=rfl;have pI:(n.ps.length:Int)≤140737488351232:=by have:=hn.pl; omega
   have kI:((og n.ks:Nat):Int)≤13651536370069504:=by have:=Fh n.ks 96 (fun s hs=>Nat.le_trans (hk s hs) (by decide)); have:=hn.kl; omega
   have vI:((og n.vs:Nat):Int)≤13651536370069504:=by have:=Fh n.vs 96 hv; have:=hn.vl; omega
   have k0:(0:Int)≤((og n.ks:Nat):Int):=by omega
   have v0:(0:Int)≤((og n.vs:Nat):Int):=by omega
   have p0:(0:Int)≤(n.ps.length:Int):=by omega
   have kG:=hid (show ((lH n:Nat):Int)=2+((og n.ks:Nat):Int)+((og n.vs:Nat):Int)+44 * (n.ps.length:Int) by rw [hsz]; omega);clear h hn hb1 hf HE hk hv hsz;generalize n.lf=lf at *;generalize og n.ks=TK at *;generalize og n.vs=TV at *;generalize n.ps.length=PL at *;go_in;go_wp2_with (first
    | (with_reducible refine wpList_load_row (o:=⟨some 4,_,_,_,_,_⟩) rfl 118 _ rfl w.heap.size rfl 118 #[.bool lf,k,v,.slice ap PL cp] (0,0) _ HA1.out Tryz.underlying118 rfl SE.out ?_))
   refine HF.out.mono ?_;rintro e w3 ⟨rfl,hb3⟩;have HB3:=hid (HB1.out.trans (hb3.mono HB1.out.size));have apr:=hid (show ∀ q,Calls Tryz.prog 151 #[k] (w3.drewN q) _ from fun q=>Aq.out (w3.drewN q) (jL HB3.out q));have aps:=hid (show ∀ q,Calls Tryz.prog 151 #[v] (w3.drewN q) _ from fun q=>HTV.out (w3.drewN q) (jL HB3.out q));obtain ⟨_,c1,c2,c3⟩:=dX ((hb3.block _ HT.out).trans HA1.out);clear hb3 HF HB1 HA1 Aq HTV;go_upto_region 3 with fail
   go_quiet ((first | (go_at_call_of 151 k; exact Calls.quiet_of_same (apr.out _)) | (go_at_call_of 151 v; exact Calls.quiet_of_same (aps.out _))));go_wp2_with fail;go_ret2;rw [kG.out];exact ⟨rfl,jL HB3.out nq⟩
theorem Yg {n:az}(hf:jU n=true)(hn:NB n):((lH n:Nat):Int)≤36028797018963968:=by
 obtain ⟨hk,hv⟩:=pJ hf;have h1:=Fh n.ks 96 (fun s hs=>Nat.le_trans (hk s hs) (by decide));have h2:=Fh n.vs 96 hv;have:=hn.kl;have:=hn.vl;have:=hn.pl;unfold lH;omega
theorem yl (k v p:Value)(n:az)(w:World)(h:NR w k v p n)(hn:NB n) :
 Calls Tryz.prog 98 #[.agg #[.bool n.lf,k,v,p]] w fun e w'=>e = .returned (.int .i64 (checkN n))∧Below w.heap.size w w':=by
 have hb1:=(Below.refl w.heap.size w).alloc (Nat.le_refl _) (.cells #[.bool n.lf,k,v,p] 118)
 have HA1:=hid (heap_alloc_new w (.cells #[.bool n.lf,k,v,p] 118))
 have HF:=hid (Yf k v p n _ (h.below hb1) hn)
 have HB1:=hid hb1
 have SE:=hid (dS n.lf k v p)
 have HE:=hid (show BZ n=if jU n then (((lH n:Nat):Int),0) else (0,4) from rfl)
 have HC:=hid (show checkN n=if jU n then (if lH n≤512 then 0 else 6) else 4 from rfl)
 have HM:=hid (fun hf=>Yg (n:=n) hf hn)
 cases hf:jU n with
 | false =>
   rw [hf] at HC HE;rw [show BZ n=(0,4) from HE.out] at HF;rw [show checkN n=4 from HC.out];clear h hn hb1 hf HE HC HM;generalize n.lf=lf at *;go_in;go_wp2_with (first
    | (with_reducible refine wpList_load_row (o:=⟨some 6,_,_,_,_,_⟩) rfl 118 _ rfl w.heap.size rfl 118 #[.bool lf,k,v,p] (0,0) _ HA1.out Tryz.underlying118 rfl SE.out ?_))
   refine HF.out.mono ?_;rintro e w3 ⟨rfl,hb3⟩;have HB3:=hid (HB1.out.trans (hb3.mono HB1.out.size));clear hb3 HF HB1 HA1;go_wp2_with fail;go_ret;exact ⟨rfl,HB3.out⟩
 | true =>
   rw [hf] at HC HE;rw [show BZ n=(((lH n:Nat):Int),0) from HE.out] at HF;rw [show checkN n=if lH n≤512 then 0 else 6 from HC.out];have zI:=HM.out hf;have z0:(0:Int)≤((lH n:Nat):Int):=by omega
   clear h hn hb1 hf HE HC HM;generalize n.lf=lf at *;generalize lH n=Z at *;by_cases hz:Z≤512
   ·rw [if_pos hz]
    have hd:decide ((512:Int)<(Z:Int))=false:=by simp; omega
    clear hz;go_in;go_wp2_with (first
     | (with_reducible refine wpList_load_row (o:=⟨some 6,_,_,_,_,_⟩) rfl 118 _ rfl w.heap.size rfl 118 #[.bool lf,k,v,p] (0,0) _ HA1.out Tryz.underlying118 rfl SE.out ?_))
    refine HF.out.mono ?_;rintro e w3 ⟨rfl,hb3⟩;have HB3:=hid (HB1.out.trans (hb3.mono HB1.out.size));clear hb3 HF HB1 HA1;go_wp2_with fail;go_ret;exact ⟨rfl,HB3.out⟩
   rw [if_neg hz];have hd:decide ((512:Int)<(Z:Int))=true:=by simp; omega
   clear hz;go_in;go_wp2_with (first
    | (with_reducible refine wpList_load_row (o:=⟨some 6,_,_,_,_,_⟩) rfl 118 _ rfl w.heap.size rfl 118 #[.bool lf,k,v,p] (0,0) _ HA1.out Tryz.underlying118 rfl SE.out ?_))
   refine HF.out.mono ?_;rintro e w3 ⟨rfl,hb3⟩;have HB3:=hid (HB1.out.trans (hb3.mono HB1.out.size));clear hb3 HF HB1 HA1;go_wp2_with fail;go_ret;exact ⟨rfl,HB3.out⟩
end
section
set_option linter.unusedVariables false
open Go.ChangeShapes Go.WideShapes Go.ChangeAt Go.RowKit
def fO (q:ByteArray×ByteArray):bI:=(uZ q.1).1++(uZ q.2).1
def eu (s:ByteArray):bI:=(uZ s).1
def vK (n:az):bI:=if n.lf then (1::(n.ks.length:Int)::(n.ks.zip n.vs).flatMap fO) else (2::(n.ks.length:Int)::(n.ks.flatMap eu++n.ps.flatMap gy))
def kC (n:az):bI:=vK n++List.replicate (512 - (vK n).length) 0
theorem oJ (s:ByteArray):(eu s).length≤256:=by
 unfold eu uZ;split
 ·simp
 simp only [List.length_cons,iq]; omega
theorem A7 (s:ByteArray):gm (eu s):=by
 unfold eu uZ;split
 ·intro z hz; simp at hz
 intro z hz;rcases List.mem_cons.1 hz with rfl | hz
 ·omega
 exact Ol s z hz
theorem Fj {s:ByteArray}(h:s.size≤255):eu s=(s.size:Int)::xu s:=by
 unfold eu uZ;rw [if_neg (by omega)]
theorem Fp {s:ByteArray}(h:s.size≤255):(eu s).length=1+s.size:=by
 rw [Fj h,List.length_cons,iq]; omega
theorem flat_length {α:Type}(f:α→bI)(k:Nat):∀ l:List α,(∀ x ∈ l,(f x).length≤k)→(l.flatMap f).length≤l.length * k
 | [],_=>by simp
 | x::l,h=>by
   have h1:=h x (by simp);have h2:=flat_length f k l (fun y hy=>h y (by simp [hy]));rw [List.flatMap_cons,List.length_append,List.length_cons,Nat.add_mul];omega
theorem zx {α:Type}(f:α→bI)(l:List α)(h:∀ x ∈ l,gm (f x)):gm (l.flatMap f):=by
 intro z hz;obtain ⟨x,hx,hz⟩:=List.mem_flatMap.1 hz;exact h x hx z hz
theorem wK {α:Type}(f:α→bI)(l:List α)(i:Nat)(x:α)(h:l[i]? = some x):(l.take (i+1)).flatMap f=(l.take i).flatMap f++f x:=by
 rw [List.take_add_one,h,List.flatMap_append];simp
theorem LC (q:ByteArray×ByteArray):(fO q).length≤512:=by
 have h1:=oJ q.1;have h2:=oJ q.2;unfold fO;unfold eu at h1 h2;rw [List.length_append];omega
theorem OG:∀ l:List ByteArray,(∀ s ∈ l,s.size≤96)→(l.flatMap eu).length=og l
 | [],_=>rfl
 | s::l,h=>by
   rw [List.flatMap_cons,List.length_append,Fp (Nat.le_trans (h s (by simp)) (by decide)),OG l (fun t ht=>h t (by simp [ht])),og]
theorem Jp:∀ (k v:List ByteArray),v.length=k.length→(∀ s ∈ k,s.size≤96)→(∀ s ∈ v,s.size≤96)→((k.zip v).flatMap fO).length=og k+og v
 | [], [],_,_,_=>rfl
 | [],_::_,h,_,_=>by simp at h
 | _::_, [],h,_,_=>by simp at h
 | a::k,b::v,h,hk,hv=>by
   have ih:=Jp k v (by simpa using h) (fun t ht=>hk t (by simp [ht])) (fun t ht=>hv t (by simp [ht]));have h1:=Fp (s:=a) (Nat.le_trans (hk a (by simp)) (by decide));have h2:=Fp (s:=b) (Nat.le_trans (hv b (by simp)) (by decide));unfold eu at h1 h2;rw [List.zip_cons_cons,List.flatMap_cons,List.length_append,ih];unfold fO;rw [List.length_append,h1,h2];simp only [og];omega
theorem OH:∀ l:List ay,(l.flatMap gy).length=44 * l.length
 | []=>rfl
 | q::l=>by rw [List.flatMap_cons,List.length_append,jC,OH l,List.length_cons]; omega
theorem qA {n:az}(hl:n.lf=true)(h:jO n=true):n.vs.length=n.ks.length∧n.ps=[]:=by
 unfold jO at h;rw [if_pos hl] at h;simp only [Bool.and_eq_true,decide_eq_true_eq] at h;exact ⟨h.1,List.length_eq_zero_iff.1 h.2⟩
theorem ng {n:az}(hl:n.lf=false)(h:jO n=true):0<n.ks.length∧n.vs=[]∧n.ps.length=n.ks.length+1:=by
 unfold jO at h;rw [hl] at h;simp only [Bool.false_eq_true,if_false,Bool.and_eq_true,decide_eq_true_eq] at h;exact ⟨h.1.1,List.length_eq_zero_iff.1 h.1.2,h.2⟩
theorem nH {n:az}(h:jU n=true):jO n=true:=by
 unfold jU at h;simp only [Bool.and_eq_true] at h;exact h.1.1.1
theorem tC {n:az}(h:jU n=true):(vK n).length=lH n:=by
 obtain ⟨hk,hv⟩:=pJ h;have hk':∀ s ∈ n.ks,s.size≤96:=fun s hs=>Nat.le_trans (hk s hs) (by decide)
 have hc:=nH h;unfold vK lH;cases hl:n.lf with
 | true =>
   obtain ⟨h1,h2⟩:=qA hl hc;rw [if_pos rfl,List.length_cons,List.length_cons,Jp _ _ h1 hk' hv,h2];simp; omega
 | false =>
   obtain ⟨_,h2,h3⟩:=ng hl hc;rw [if_neg (by decide),List.length_cons,List.length_cons,List.length_append,OG _ hk',OH,h2];simp [og]; omega
theorem nJ {n:az}(h:checkN n=0):jU n=true∧lH n≤512:=by
 unfold checkN at h;cases hf:jU n with
 | false=>rw [hf] at h; simp at h
 | true =>
   rw [hf] at h;simp only [if_true] at h;split at h
   ·exact ⟨rfl,by assumption⟩
   cases h
theorem VO:∀ l:List ByteArray,l.length≤og l
 | []=>Nat.le_refl _
 | s::l=>by have:=VO l; simp only [og,List.length_cons]; omega
theorem A8 {n:az}(h:checkN n=0):n.ks.length≤510∧n.ps.length≤11:=by
 obtain ⟨_,h2⟩:=nJ h;have h3:=VO n.ks;unfold lH at h2;omega
theorem Jq:∀ (a:ByteArray) (l:List ByteArray),dB a l=true→∀ s ∈ l,lo ⟨#[]⟩ s=true
 | _, [],_,s,hs=>by simp at hs
 | a,k::r,h,s,hs=>by
   unfold dB at h;simp only [Bool.and_eq_true,decide_eq_true_eq] at h;rcases List.mem_cons.1 hs with rfl | hs
   ·rcases vJ ⟨#[]⟩ s with e | e | e
    ·exact e
    ·rw [← e,vH,decide_eq_true_iff] at h
     exact absurd h.1.1 (by simp [Lib.toList_data,List.not_lt_nil])
    rw [vH,decide_eq_true_iff] at e;exact absurd e (by simp [Lib.toList_data,List.not_lt_nil])
   exact Jq k r h.2 s hs
theorem aim {s:ByteArray}(h:lo ⟨#[]⟩ s=true):1≤s.size:=by
 rcases Nat.eq_zero_or_pos s.size with e | e
 ·have:s=⟨#[]⟩:=ByteArray.ext (Array.eq_empty_of_size_eq_zero e)
  rw [this,dP] at h;cases h
 exact e
theorem VP:∀ l:List ByteArray,(∀ s ∈ l,1≤s.size)→2 * l.length≤og l
 | [],_=>Nat.le_refl _
 | s::l,h=>by
   have:=VP l (fun t ht=>h t (by simp [ht]));have:=h s (by simp);simp only [og,List.length_cons];omega
theorem wL {n:az}(h:checkN n=0):n.ks.length≤255:=by
 obtain ⟨h1,h2⟩:=nJ h;unfold jU at h1;simp only [Bool.and_eq_true] at h1;have h3:=VP n.ks (fun s hs=>aim (Jq _ _ h1.1.1.2 s hs));unfold lH at h2;omega
theorem Jr (k v p:Value)(lf:Bool)(w:World) :
 Calls Tryz.prog 100 #[.agg #[.bool lf,k,v,p]] w fun e w'=>e = .returned (.int .u8 (if lf then 1 else 2))∧Below w.heap.size w w':=by
 have HB1:=hid ((Below.refl w.heap.size w).alloc (Nat.le_refl _) (.cells #[.bool lf,k,v,p] 118))
 obtain ⟨c0,_,_,_⟩:=dX (heap_alloc_new w (.cells #[.bool lf,k,v,p] 118))
 cases lf with
 | true =>
   go_in;go_wp2_with fail;go_ret;exact ⟨rfl,HB1.out⟩
 | false =>
   go_in;go_wp2_with fail;go_ret;exact ⟨rfl,HB1.out⟩
theorem WL.more {w0 w:World}{P:Nat}{l m:bI}(h:WL w0 w P l)(e:l=m):WL w0 w P m:=e ▸ h
theorem Yh (k v p:Value)(l m:List ByteArray)(q:List ay)(w:World)(h:NR w k v p ⟨true,l,m,q⟩)(hn:NB ⟨true,l,m,q⟩)(hc:checkN ⟨true,l,m,q⟩=0) :
 Calls Tryz.prog 78 #[.agg #[.bool true,k,v,p]] w fun e w'=>∃ a c,e = .returned (.tuple #[.slice a 512 c,.int .i64 0])∧512≤c∧BS w' (.slice a 512 c) (kC ⟨true,l,m,q⟩)∧Below w.heap.size w w':=by
 obtain ⟨hf,hz⟩:=nJ hc
 have hlen:=tC hf
 have LD:=wL hc
 obtain ⟨_,h11⟩:=A8 hc
 have hcn:=nH hf
 have OI:=hid (fun W (b:Below w.heap.size w W)=>yl k v p ⟨true,l,m,q⟩ W (h.below b) hn)
 have KH:=hid (fun W=>Jr k v p true W)
 rw [hc] at OI
 obtain ⟨ak,ck,rfl,_,hk⟩:=h.ks
 obtain ⟨av,cv,rfl,_,hv⟩:=h.vs
 obtain ⟨ap,cp,rfl,hp⟩:=h.ps
 obtain ⟨hcl,hq0⟩:=qA rfl hcn
 dsimp only at hcl hq0
 have KW:=hid hcl
 have Ba:=hid hq0
 clear hcl hq0
 have abp:kC ⟨true,l,m,q⟩=(1::(l.length:Int)::(l.zip m).flatMap fO)++List.replicate (512 - ((1::(l.length:Int)::(l.zip m).flatMap fO)).length) 0:=rfl
 have hnb:((1::(l.length:Int)::(l.zip m).flatMap fO)).length≤512:=by have e:vK ⟨true,l,m,q⟩=(1::(l.length:Int)::(l.zip m).flatMap fO):=rfl; rw [← e,hlen]; exact hz
 have hkz:=hn.kz
 have hvz:=hn.vz
 dsimp only at *
 have HK:=hid hk
 have HV:=hid hv
 have HP:=hid hp
 have LG:=hid abp
 have VQ:=hid hnb
 have HKZ:=hid hkz
 have HVZ:=hid hvz
 have Cc:=hid (fun i=>show (((l.zip m).take i).flatMap fO).length≤i * 512 from Nat.le_trans (flat_length _ 512 _ (fun x _=>LC x)) (Nat.mul_le_mul_right _ (by rw [List.length_take]; omega)))
 have ZU:=hid (fun i=>show ((q.take i).flatMap gy).length≤i * 44 from Nat.le_trans (flat_length _ 44 _ (fun x _=>by rw [jC]; exact Nat.le_refl _)) (Nat.mul_le_mul_right _ (by rw [List.length_take]; omega)))
 have HBT:=hid (show ((l.zip m).flatMap fO).length≤512 by have:=hnb; simp only [List.length_cons] at this; omega)
 have Aq:=hid (show ∀ i,l.length≤i→((l.zip m).take i).flatMap fO=(l.zip m).flatMap fO from fun i hi=>by rw [List.take_of_length_le (by first | exact hi | (simp; omega))])
 have HTP:=hid (show ∀ i,q.length≤i→(q.take i).flatMap gy=q.flatMap gy from fun i hi=>by rw [List.take_of_length_le hi])
 clear h hn hc hf hz hlen hcn hk hv hp abp hnb hkz hvz
 obtain ⟨N,hN⟩:∃ N,l.length=N:=⟨_,rfl⟩
 obtain ⟨V,hV⟩:∃ V,m.length=V:=⟨_,rfl⟩
 obtain ⟨M,hM⟩:∃ M,q.length=M:=⟨_,rfl⟩
 have HN:=hid hN
 have HVL:=hid hV
 have HM:=hid hM
 rw [hN] at OI KH LD Aq LG VQ ⊢
 rw [hV] at OI KH ⊢
 rw [hM] at OI KH h11 HTP ⊢
 have NI:(N:Int)≤255:=by omega
 have N0:(0:Int)≤(N:Int):=by omega
 have MI:(M:Int)≤11:=by omega
 have M0:(0:Int)≤(M:Int):=by omega
 have HN9:=hid (And.intro LD h11)
 clear hN hV hM LD h11
 have hb1:=(Below.refl w.heap.size w).alloc (Nat.le_refl _) (.cells #[.bool true,.slice ak N ck,.slice av V cv,.slice ap M cp] 118)
 have hA1:=heap_alloc_new w (.cells #[.bool true,.slice ak N ck,.slice av V cv,.slice ap M cp] 118)
 have SE:=hid (dS true (.slice ak N ck) (.slice av V cv) (.slice ap M cp))
 have hs1:(w.alloc (.cells #[.bool true,.slice ak N ck,.slice av V cv,.slice ap M cp] 118)).heap.size=w.heap.size+1:=by simp
 generalize hw1:w.alloc (.cells #[.bool true,.slice ak N ck,.slice av V cv,.slice ap M cp] 118)=w1 at *
 have HAT:=hid (fun W (b:Below w1.heap.size w1 W)=>(b.block w.heap.size (by omega)).trans hA1)
 have qY:=hid (show ∀ W,Below w1.heap.size w1 W→Below w.heap.size w W from fun W b=>hb1.trans (b.mono (by omega)))
 have HB1:=hid hb1
 have HA1:=hid hA1
 have TE:=hid hs1
 clear hb1 hA1 hs1
 go_in
 go_upto_region 1 with fail
 try rw [hw1]
 clear hw1
 go_wp2_with (first
  | (with_reducible refine wpList_load_row (o:=⟨some 10,_,_,_,_,_⟩) rfl 118 _ rfl w.heap.size rfl 118 #[.bool true,.slice ak N ck,.slice av V cv,.slice ap M cp] (0,0) _ HA1.out Tryz.underlying118 rfl SE.out ?_))
 refine (OI.out w1 HB1.out).mono ?_
 rintro e w2 ⟨rfl,hb2⟩
 have H6:=hid (aaW (w0:=w1) (w1:=w2) hb2)
 have HB2:=hid hb2
 obtain ⟨P,hP⟩:∃ P,w2.heap.size=P:=⟨_,rfl⟩
 have HA2:=hid (HAT.out _ H6.out.bel)
 have hz:=BU
 clear hb2 HA1 OI
 rw [hP] at H6
 go_upto_region 5 with fail
 try simp only [hP]
 generalize hw3:w2.alloc _=w3 at *
 clear hP hw3 hz
 go_wp2_with (first
  | (with_reducible refine wpList_load_row (o:=⟨some 15,_,_,_,_,_⟩) rfl 118 _ rfl w.heap.size rfl 118 #[.bool true,.slice ak N ck,.slice av V cv,.slice ap M cp] (0,0) _ HA2.out Tryz.underlying118 rfl SE.out ?_))
 refine (KH.out _).mono ?_
 rintro e w4 ⟨rfl,hb4⟩
 have HW4:=hid (La w1 w4 P [] 1 1 (H6.out.below hb4) (by decide) (by simp))
 rw [show uM 1 1=([1],0) by decide] at HW4
 clear hb4 H6 HA2 KH
 try simp only [if_true]
 go_wp2_with fail
 refine HW4.out.mono ?_
 rintro e w5 ⟨rfl,h5⟩
 have yt:=hid (La w1 w5 P _ (N:Int) 1 h5 (by omega) (by simp))
 rw [show uM (N:Int) 1=([(N:Int)],0) from ET N (by have:=HN9.out; omega)] at yt
 have c1:=(dX (HAT.out w5 h5.bel)).2.1
 have x1:IntKind.u64.wrap (N:Int)=(N:Int):=IntWalk.u64_in _ (by omega)
 clear h5 HW4
 go_wp2_with fail
 refine yt.out.mono ?_
 rintro e w6 ⟨rfl,h6⟩
 have Js:=hid h6
 have c1':=(dX (HAT.out w6 h6.bel)).2.1
 clear h6 yt c1 x1
 go_wp2_with fail
 clear c1'
 go_loopw [6,7,27] (fun _ _ v27 wr=>∃ i:Nat,i≤N∧v27 = .int .i64 (i:Int)∧WL w1 wr P ([1,(N:Int)]++((l.zip m).take i).flatMap fO)) (fun _ _ v _=>N - (intOf v).toNat)
 case atStart=>exact ⟨0,by omega,rfl,Js.out.more (by simp)⟩
 case round =>
  clear Js;obtain ⟨i,hi,rfl,hW⟩:=hrel;by_cases hlt:i<N
  ·obtain ⟨x,hx⟩:∃ x,l[i]? = some x:=⟨_,List.getElem?_eq_getElem (by have:=HN.out; omega)⟩
   obtain ⟨b1,o1,rfl,g1⟩:=HK.out i x hx;have hix:=iK b1 o1 N ck i hlt;have g1':=((qY.out _ hW.bel).cell (p:=⟨b1,o1+i,none⟩) (block_lt_of_cell g1)).trans g1;have HST:=hid (Tn w1 wr P _ x hW (HKZ.out x (List.mem_of_getElem? hx)) (by have:=Cc.out i; have:=HN9.out; simp only [List.length_append,List.length_cons,List.length_nil]; omega));obtain ⟨y,hy⟩:∃ y,m[i]? = some y:=⟨_,List.getElem?_eq_getElem (by have:=HN.out; have:=KW.out; omega)⟩
   obtain ⟨b2,o2,rfl,g2⟩:=HV.out i y hy;have hix2:=iK b2 o2 V cv i (by have:=HN.out; have:=KW.out; have:=HVL.out; omega);have HG2:=hid g2;have xB:=hid (show ((l.zip m).take (i+1)).flatMap fO=((l.zip m).take i).flatMap fO++((uZ x).1++(uZ y).1) from wK fO (l.zip m) i (x,y) (by rw [List.getElem?_zip_eq_some]; exact ⟨hx,hy⟩));have HYZ:=hid (HVZ.out y (List.mem_of_getElem? hy));have vI:(i:Int)<(V:Int):=by have:=HN.out; have:=KW.out; have:=HVL.out; omega
   have HXL:=hid (oJ x);clear hy g2;have bn:=hid hlt;have iI:(i:Int)<(N:Int):=by omega
   have i0:(0:Int)≤(i:Int):=by omega
   clear hi hlt hx hW g1;go_wp2_with fail;refine HST.out.mono ?_;rintro e w7 ⟨rfl,h7⟩;obtain ⟨c0,_,c2,_⟩:=dX (HAT.out w7 h7.bel);have g2':=((qY.out _ h7.bel).cell (p:=⟨b2,o2+i,none⟩) (block_lt_of_cell HG2.out)).trans HG2.out;have amx:=hid (Tn w1 w7 P _ y h7 HYZ.out (by have:=Cc.out i; have:=HN9.out; have:=HXL.out; unfold eu at this; simp only [List.length_append,List.length_cons,List.length_nil]; omega));clear h7 HST hix;go_wp2_with fail;refine amx.out.mono ?_;rintro e w8 ⟨rfl,h8⟩;have H8:=hid h8;clear h8 amx c0 c2 g2';go_wp2_with fail;go_roundw
   case rel=>exact ⟨i+1,by have:=bn.out; omega,by go_num,H8.out.more (by rw [xB.out]; simp only [List.append_assoc])⟩
   case measure=>simp [intOf]; have:=bn.out; omega
  obtain rfl:i=N:=by omega
  rw [Aq.out i (Nat.le_refl _)] at hW;have HW:=hid hW;obtain ⟨c0,_,_,c3⟩:=dX (HAT.out wr hW.bel);clear hi hlt hW Aq Cc;go_wp2_with fail;clear c0 c3;go_loopw [46] (fun v46 wr=>∃ j:Nat,j≤M∧v46 = .int .i64 (j:Int)∧WL w1 wr P (([1,(i:Int)]++(l.zip m).flatMap fO)++(q.take j).flatMap gy)) (fun v _=>M - (intOf v).toNat)
  case atStart=>exact ⟨0,by omega,rfl,HW.out.more (by simp)⟩
  case round =>
   clear HW;obtain ⟨j,hj,rfl,hW⟩:=hrel;by_cases hlt:j<M
   ·obtain ⟨x,hx⟩:∃ x,q[j]? = some x:=⟨_,List.getElem?_eq_getElem (by have:=HM.out; omega)⟩
    obtain ⟨b1,o1,rfl,g1⟩:=HP.out j x hx;have hix:=rF b1 o1 M cp j hlt;have lW:=hid (dm g1 (qY.out _ hW.bel));have xB:=hid (wK gy q j x hx);have bn:=hid hlt;have iI:(j:Int)<(M:Int):=by omega
    have i0:(0:Int)≤(j:Int):=by omega
    have DY:=hid (dL x);have Bc:=hid (cZ x);have EW:=hid (show (ag ai).toArray.size=(ag x).toArray.size by simp [aO]);have WO:=hid (aW x);have hzp:=dF;obtain ⟨ZA,VR⟩:∃ ZA,(ag ai).toArray=ZA:=⟨_,rfl⟩
    rw [VR] at hzp EW;have LH:=hid (fun W (hW:WL w1 W P (([1,(i:Int)]++(l.zip m).flatMap fO)++(q.take j).flatMap gy))=>abf w1 W P _ x hW (by have:=ZU.out j; have:=HN9.out; have:=HBT.out; simp only [List.length_append,List.length_cons,List.length_nil]; omega));have HW:=hid hW;clear hj hlt hx hW g1 VR;go_upto_region 17 with (first
     | (with_reducible refine wpList_load_mid (op:=⟨some 49,_,_,_,_,_⟩) rfl 51 _ rfl b1 (o1+j * 34) rfl (ag x) _ lW.out Tryz.underlying51 rfl DY.out ?_)
     | (with_reducible refine wpList_store_row (o:=⟨none,.store _ (.tmp 9) _,_,_,_,_⟩) rfl 51 _ _ rfl wr.heap.size (ag x).toArray rfl rfl 51 ZA (heap_alloc_new wr _) Bc.out EW.out WO.out ?_))
    clear hix hzp;obtain ⟨h7,hb7⟩:=vG wr ZA (ag x).toArray;generalize World.setRow _ wr.heap.size _=w7 at *;have H7:=hid h7;have abq:=hid (LH.out w7 (HW.out.below hb7));clear h7 hb7 LH HW lW DY EW WO;generalize (ag x).toArray=AR at *;go_wp2_with (first
     | (with_reducible refine wpList_load_row (o:=⟨some 50,_,_,_,_,_⟩) rfl 51 _ rfl wr.heap.size rfl 51 AR (0,0) _ H7.out Tryz.underlying51 rfl Bc.out ?_))
    refine abq.out.mono ?_;rintro e w8 ⟨rfl,h8⟩;have H8:=hid h8;clear h8 abq H7;go_wp2_with fail;go_roundw
    case rel=>exact ⟨j+1,by have:=bn.out; omega,by go_num,H8.out.more (by rw [xB.out,List.append_assoc])⟩
    case measure=>simp [intOf]; have:=bn.out; omega
   obtain rfl:j=M:=by omega
   rw [HTP.out j (Nat.le_refl _)] at hW;have hW':=hW.more (m:=(1::(i:Int)::(l.zip m).flatMap fO)) (by rw [Ba.out]; simp);have LJ:=hid (aaX w1 wr P _ 512 hW' (by have:=VQ.out; omega));rw [show zq ((1::(i:Int)::(l.zip m).flatMap fO)).length 512=(List.replicate (512 - ((1::(i:Int)::(l.zip m).flatMap fO)).length) 0,0) by unfold zq; rw [if_neg (by have:=VQ.out; omega)]; rfl] at LJ;clear hj hlt hW hW';go_wp2_with fail;refine LJ.out.mono ?_;rintro e w9 ⟨rfl,h9⟩;rw [← LG.out] at h9;have HBY:=hid (Oq w1 w9 P _ h9 (by rw [show (kC ⟨true,l,m,q⟩).length=512 by rw [LG.out,List.length_append,List.length_replicate]; have:=VQ.out; omega]; decide));rw [show (kC ⟨true,l,m,q⟩).length=512 by rw [LG.out,List.length_append,List.length_replicate]; have:=VQ.out; omega] at HBY;have H9:=hid h9;clear h9 LJ;go_wp2_with fail;refine HBY.out.mono ?_;rintro e w10 ⟨a,c,rfl,hc,hbs,hwl,Dx⟩;have HF:=hid (And.intro hc (And.intro hbs (qY.out _ hwl.bel)));clear hc hbs hwl Dx HBY H9;go_wp2_with fail;go_ret2;exact ⟨a,c,rfl,HF.out.1,HF.out.2.1,HF.out.2.2⟩
theorem TF (k v p:Value)(l m:List ByteArray)(q:List ay)(w:World)(h:NR w k v p ⟨false,l,m,q⟩)(hn:NB ⟨false,l,m,q⟩)(hc:checkN ⟨false,l,m,q⟩=0) :
 Calls Tryz.prog 78 #[.agg #[.bool false,k,v,p]] w fun e w'=>∃ a c,e = .returned (.tuple #[.slice a 512 c,.int .i64 0])∧512≤c∧BS w' (.slice a 512 c) (kC ⟨false,l,m,q⟩)∧Below w.heap.size w w':=by
 obtain ⟨hf,hz⟩:=nJ hc
 have hlen:=tC hf
 have LD:=wL hc
 obtain ⟨_,h11⟩:=A8 hc
 have hcn:=nH hf
 have OI:=hid (fun W (b:Below w.heap.size w W)=>yl k v p ⟨false,l,m,q⟩ W (h.below b) hn)
 have KH:=hid (fun W=>Jr k v p false W)
 rw [hc] at OI
 obtain ⟨ak,ck,rfl,_,hk⟩:=h.ks
 obtain ⟨av,cv,rfl,_,hv⟩:=h.vs
 obtain ⟨ap,cp,rfl,hp⟩:=h.ps
 obtain ⟨hcl,hq0,_⟩:=ng rfl hcn
 dsimp only at hcl hq0
 clear hcl hq0
 have abp:kC ⟨false,l,m,q⟩=(2::(l.length:Int)::(l.flatMap eu++q.flatMap gy))++List.replicate (512 - ((2::(l.length:Int)::(l.flatMap eu++q.flatMap gy))).length) 0:=rfl
 have hnb:((2::(l.length:Int)::(l.flatMap eu++q.flatMap gy))).length≤512:=by have e:vK ⟨false,l,m,q⟩=(2::(l.length:Int)::(l.flatMap eu++q.flatMap gy)):=rfl; rw [← e,hlen]; exact hz
 have hkz:=hn.kz
 have hvz:=hn.vz
 dsimp only at *
 have HK:=hid hk
 have HV:=hid hv
 have HP:=hid hp
 have LG:=hid abp
 have VQ:=hid hnb
 have HKZ:=hid hkz
 have HVZ:=hid hvz
 have Cc:=hid (fun i=>show ((l.take i).flatMap eu).length≤i * 512 from Nat.le_trans (flat_length _ 512 _ (fun x _=>Nat.le_trans (oJ x) (by decide))) (Nat.mul_le_mul_right _ (by rw [List.length_take]; omega)))
 have ZU:=hid (fun i=>show ((q.take i).flatMap gy).length≤i * 44 from Nat.le_trans (flat_length _ 44 _ (fun x _=>by rw [jC]; exact Nat.le_refl _)) (Nat.mul_le_mul_right _ (by rw [List.length_take]; omega)))
 have HBT:=hid (show (l.flatMap eu).length≤512 by have:=hnb; simp only [List.length_cons,List.length_append] at this; omega)
 have Aq:=hid (show ∀ i,l.length≤i→(l.take i).flatMap eu=l.flatMap eu from fun i hi=>by rw [List.take_of_length_le (by first | exact hi | (simp; omega))])
 have HTP:=hid (show ∀ i,q.length≤i→(q.take i).flatMap gy=q.flatMap gy from fun i hi=>by rw [List.take_of_length_le hi])
 clear h hn hc hf hz hlen hcn hk hv hp abp hnb hkz hvz
 obtain ⟨N,hN⟩:∃ N,l.length=N:=⟨_,rfl⟩
 obtain ⟨V,hV⟩:∃ V,m.length=V:=⟨_,rfl⟩
 obtain ⟨M,hM⟩:∃ M,q.length=M:=⟨_,rfl⟩
 have HN:=hid hN
 have HVL:=hid hV
 have HM:=hid hM
 rw [hN] at OI KH LD Aq LG VQ ⊢
 rw [hV] at OI KH ⊢
 rw [hM] at OI KH h11 HTP ⊢
 have NI:(N:Int)≤255:=by omega
 have N0:(0:Int)≤(N:Int):=by omega
 have MI:(M:Int)≤11:=by omega
 have M0:(0:Int)≤(M:Int):=by omega
 have HN9:=hid (And.intro LD h11)
 clear hN hV hM LD h11
 have hb1:=(Below.refl w.heap.size w).alloc (Nat.le_refl _) (.cells #[.bool false,.slice ak N ck,.slice av V cv,.slice ap M cp] 118)
 have hA1:=heap_alloc_new w (.cells #[.bool false,.slice ak N ck,.slice av V cv,.slice ap M cp] 118)
 have SE:=hid (dS false (.slice ak N ck) (.slice av V cv) (.slice ap M cp))
 have hs1:(w.alloc (.cells #[.bool false,.slice ak N ck,.slice av V cv,.slice ap M cp] 118)).heap.size=w.heap.size+1:=by simp
 generalize hw1:w.alloc (.cells #[.bool false,.slice ak N ck,.slice av V cv,.slice ap M cp] 118)=w1 at *
 have HAT:=hid (fun W (b:Below w1.heap.size w1 W)=>(b.block w.heap.size (by omega)).trans hA1)
 have qY:=hid (show ∀ W,Below w1.heap.size w1 W→Below w.heap.size w W from fun W b=>hb1.trans (b.mono (by omega)))
 have HB1:=hid hb1
 have HA1:=hid hA1
 have TE:=hid hs1
 clear hb1 hA1 hs1
 go_in
 go_upto_region 1 with fail
 try rw [hw1]
 clear hw1
 go_wp2_with (first
  | (with_reducible refine wpList_load_row (o:=⟨some 10,_,_,_,_,_⟩) rfl 118 _ rfl w.heap.size rfl 118 #[.bool false,.slice ak N ck,.slice av V cv,.slice ap M cp] (0,0) _ HA1.out Tryz.underlying118 rfl SE.out ?_))
 refine (OI.out w1 HB1.out).mono ?_
 rintro e w2 ⟨rfl,hb2⟩
 have H6:=hid (aaW (w0:=w1) (w1:=w2) hb2)
 have HB2:=hid hb2
 obtain ⟨P,hP⟩:∃ P,w2.heap.size=P:=⟨_,rfl⟩
 have HA2:=hid (HAT.out _ H6.out.bel)
 have hz:=BU
 clear hb2 HA1 OI
 rw [hP] at H6
 go_upto_region 5 with fail
 try simp only [hP]
 generalize hw3:w2.alloc _=w3 at *
 clear hP hw3 hz
 go_wp2_with (first
  | (with_reducible refine wpList_load_row (o:=⟨some 15,_,_,_,_,_⟩) rfl 118 _ rfl w.heap.size rfl 118 #[.bool false,.slice ak N ck,.slice av V cv,.slice ap M cp] (0,0) _ HA2.out Tryz.underlying118 rfl SE.out ?_))
 refine (KH.out _).mono ?_
 rintro e w4 ⟨rfl,hb4⟩
 have HW4:=hid (La w1 w4 P [] 2 1 (H6.out.below hb4) (by decide) (by simp))
 rw [show uM 2 1=([2],0) by decide] at HW4
 clear hb4 H6 HA2 KH
 try simp only [Bool.false_eq_true,if_false]
 go_wp2_with fail
 refine HW4.out.mono ?_
 rintro e w5 ⟨rfl,h5⟩
 have yt:=hid (La w1 w5 P _ (N:Int) 1 h5 (by omega) (by simp))
 rw [show uM (N:Int) 1=([(N:Int)],0) from ET N (by have:=HN9.out; omega)] at yt
 have c1:=(dX (HAT.out w5 h5.bel)).2.1
 have x1:IntKind.u64.wrap (N:Int)=(N:Int):=IntWalk.u64_in _ (by omega)
 clear h5 HW4
 go_wp2_with fail
 refine yt.out.mono ?_
 rintro e w6 ⟨rfl,h6⟩
 have Js:=hid h6
 have c1':=(dX (HAT.out w6 h6.bel)).2.1
 clear h6 yt c1 x1
 go_wp2_with fail
 clear c1'
 go_loopw [6,7,27] (fun _ _ v27 wr=>∃ i:Nat,i≤N∧v27 = .int .i64 (i:Int)∧WL w1 wr P ([2,(N:Int)]++(l.take i).flatMap eu)) (fun _ _ v _=>N - (intOf v).toNat)
 case atStart=>exact ⟨0,by omega,rfl,Js.out.more (by simp)⟩
 case round =>
  clear Js;obtain ⟨i,hi,rfl,hW⟩:=hrel;by_cases hlt:i<N
  ·obtain ⟨x,hx⟩:∃ x,l[i]? = some x:=⟨_,List.getElem?_eq_getElem (by have:=HN.out; omega)⟩
   obtain ⟨b1,o1,rfl,g1⟩:=HK.out i x hx;have hix:=iK b1 o1 N ck i hlt;have g1':=((qY.out _ hW.bel).cell (p:=⟨b1,o1+i,none⟩) (block_lt_of_cell g1)).trans g1;have HST:=hid (Tn w1 wr P _ x hW (HKZ.out x (List.mem_of_getElem? hx)) (by have:=Cc.out i; have:=HN9.out; simp only [List.length_append,List.length_cons,List.length_nil]; omega));have xB:=hid (show (l.take (i+1)).flatMap eu=(l.take i).flatMap eu++(uZ x).1 from wK eu l i x hx);have bn:=hid hlt;have iI:(i:Int)<(N:Int):=by omega
   have i0:(0:Int)≤(i:Int):=by omega
   clear hi hlt hx hW g1;go_wp2_with fail;refine HST.out.mono ?_;rintro e w7 ⟨rfl,h7⟩;obtain ⟨c0,_,_,_⟩:=dX (HAT.out w7 h7.bel);have H7:=hid h7;clear h7 HST hix;go_wp2_with fail;go_roundw
   case rel=>exact ⟨i+1,by have:=bn.out; omega,by go_num,H7.out.more (by rw [xB.out,List.append_assoc])⟩
   case measure=>simp [intOf]; have:=bn.out; omega
  obtain rfl:i=N:=by omega
  rw [Aq.out i (Nat.le_refl _)] at hW;have HW:=hid hW;obtain ⟨c0,_,_,c3⟩:=dX (HAT.out wr hW.bel);clear hi hlt hW Aq Cc;go_wp2_with fail;clear c0 c3;go_loopw [46] (fun v46 wr=>∃ j:Nat,j≤M∧v46 = .int .i64 (j:Int)∧WL w1 wr P (([2,(i:Int)]++l.flatMap eu)++(q.take j).flatMap gy)) (fun v _=>M - (intOf v).toNat)
  case atStart=>exact ⟨0,by omega,rfl,HW.out.more (by simp)⟩
  case round =>
   clear HW;obtain ⟨j,hj,rfl,hW⟩:=hrel;by_cases hlt:j<M
   ·obtain ⟨x,hx⟩:∃ x,q[j]? = some x:=⟨_,List.getElem?_eq_getElem (by have:=HM.out; omega)⟩
    obtain ⟨b1,o1,rfl,g1⟩:=HP.out j x hx;have hix:=rF b1 o1 M cp j hlt;have lW:=hid (dm g1 (qY.out _ hW.bel));have xB:=hid (wK gy q j x hx);have bn:=hid hlt;have iI:(j:Int)<(M:Int):=by omega
    have i0:(0:Int)≤(j:Int):=by omega
    have DY:=hid (dL x);have Bc:=hid (cZ x);have EW:=hid (show (ag ai).toArray.size=(ag x).toArray.size by simp [aO]);have WO:=hid (aW x);have hzp:=dF;obtain ⟨ZA,VR⟩:∃ ZA,(ag ai).toArray=ZA:=⟨_,rfl⟩
    rw [VR] at hzp EW;have LH:=hid (fun W (hW:WL w1 W P (([2,(i:Int)]++l.flatMap eu)++(q.take j).flatMap gy))=>abf w1 W P _ x hW (by have:=ZU.out j; have:=HN9.out; have:=HBT.out; simp only [List.length_append,List.length_cons,List.length_nil]; omega));have HW:=hid hW;clear hj hlt hx hW g1 VR;go_upto_region 17 with (first
     | (with_reducible refine wpList_load_mid (op:=⟨some 49,_,_,_,_,_⟩) rfl 51 _ rfl b1 (o1+j * 34) rfl (ag x) _ lW.out Tryz.underlying51 rfl DY.out ?_)
     | (with_reducible refine wpList_store_row (o:=⟨none,.store _ (.tmp 9) _,_,_,_,_⟩) rfl 51 _ _ rfl wr.heap.size (ag x).toArray rfl rfl 51 ZA (heap_alloc_new wr _) Bc.out EW.out WO.out ?_))
    clear hix hzp;obtain ⟨h7,hb7⟩:=vG wr ZA (ag x).toArray;generalize World.setRow _ wr.heap.size _=w7 at *;have H7:=hid h7;have abq:=hid (LH.out w7 (HW.out.below hb7));clear h7 hb7 LH HW lW DY EW WO;generalize (ag x).toArray=AR at *;go_wp2_with (first
     | (with_reducible refine wpList_load_row (o:=⟨some 50,_,_,_,_,_⟩) rfl 51 _ rfl wr.heap.size rfl 51 AR (0,0) _ H7.out Tryz.underlying51 rfl Bc.out ?_))
    refine abq.out.mono ?_;rintro e w8 ⟨rfl,h8⟩;have H8:=hid h8;clear h8 abq H7;go_wp2_with fail;go_roundw
    case rel=>exact ⟨j+1,by have:=bn.out; omega,by go_num,H8.out.more (by rw [xB.out,List.append_assoc])⟩
    case measure=>simp [intOf]; have:=bn.out; omega
   obtain rfl:j=M:=by omega
   rw [HTP.out j (Nat.le_refl _)] at hW;have hW':=hW.more (m:=(2::(i:Int)::(l.flatMap eu++q.flatMap gy))) (by simp);have LJ:=hid (aaX w1 wr P _ 512 hW' (by have:=VQ.out; omega));rw [show zq ((2::(i:Int)::(l.flatMap eu++q.flatMap gy))).length 512=(List.replicate (512 - ((2::(i:Int)::(l.flatMap eu++q.flatMap gy))).length) 0,0) by unfold zq; rw [if_neg (by have:=VQ.out; omega)]; rfl] at LJ;clear hj hlt hW hW';go_wp2_with fail;refine LJ.out.mono ?_;rintro e w9 ⟨rfl,h9⟩;rw [← LG.out] at h9;have HBY:=hid (Oq w1 w9 P _ h9 (by rw [show (kC ⟨false,l,m,q⟩).length=512 by rw [LG.out,List.length_append,List.length_replicate]; have:=VQ.out; omega]; decide));rw [show (kC ⟨false,l,m,q⟩).length=512 by rw [LG.out,List.length_append,List.length_replicate]; have:=VQ.out; omega] at HBY;have H9:=hid h9;clear h9 LJ;go_wp2_with fail;refine HBY.out.mono ?_;rintro e w10 ⟨a,c,rfl,hc,hbs,hwl,Dx⟩;have HF:=hid (And.intro hc (And.intro hbs (qY.out _ hwl.bel)));clear hc hbs hwl Dx HBY H9;go_wp2_with fail;go_ret2;exact ⟨a,c,rfl,HF.out.1,HF.out.2.1,HF.out.2.2⟩
theorem Fq (k v p:Value)(n:az)(w:World)(h:NR w k v p n)(hn:NB n)(hc:checkN n=0) :
 Calls Tryz.prog 78 #[.agg #[.bool n.lf,k,v,p]] w fun e w'=>∃ a c,e = .returned (.tuple #[.slice a 512 c,.int .i64 0])∧512≤c∧BS w' (.slice a 512 c) (kC n)∧Below w.heap.size w w':=by
 obtain ⟨lf,l,m,q⟩:=n
 cases lf with
 | true=>exact Yh k v p l m q w h hn hc
 | false=>exact TF k v p l m q w h hn hc
theorem abr (k v p:Value)(n:az)(w:World)(h:NR w k v p n)(hn:NB n)(hc:checkN n ≠ 0) :
 Calls Tryz.prog 78 #[.agg #[.bool n.lf,k,v,p]] w fun e w'=>e = .returned (.tuple #[.slice none 0 0,.int .i64 (checkN n)])∧Below w.heap.size w w':=by
 have hb1:=(Below.refl w.heap.size w).alloc (Nat.le_refl _) (.cells #[.bool n.lf,k,v,p] 118)
 have HA1:=hid (heap_alloc_new w (.cells #[.bool n.lf,k,v,p] 118))
 have HF:=hid (yl k v p n _ (h.below hb1) hn)
 have HB1:=hid hb1
 have SE:=hid (dS n.lf k v p)
 have hd:(checkN n == 0)=false:=by simpa using hc
 clear h hn hb1 hc
 generalize checkN n=ce at *
 generalize n.lf=lf at *
 go_in
 go_wp2_with (first
  | (with_reducible refine wpList_load_row (o:=⟨some 10,_,_,_,_,_⟩) rfl 118 _ rfl w.heap.size rfl 118 #[.bool lf,k,v,p] (0,0) _ HA1.out Tryz.underlying118 rfl SE.out ?_))
 refine HF.out.mono ?_
 rintro e w3 ⟨rfl,hb3⟩
 have HB3:=hid (HB1.out.trans (hb3.mono HB1.out.size))
 clear hb3 HF HB1 HA1
 go_wp2_with fail
 go_ret2
 exact ⟨rfl,HB3.out⟩
end
section
set_option linter.unusedVariables false
open Go.ChangeShapes Go.WideShapes Go.ChangeAt Go.RowKit
def yu (l:List ByteArray):Prop:=l.Pairwise (fun a b=>lo a b=true)
theorem Bd {l:List ByteArray}(h:yu l){i j:Nat}{a b:ByteArray}(hij:i<j)(ha:l[i]? = some a)(hb:l[j]? = some b):lo a b=true:=by
 obtain ⟨h1,rfl⟩:=List.getElem?_eq_some_iff.1 ha;obtain ⟨h2,rfl⟩:=List.getElem?_eq_some_iff.1 hb;exact List.pairwise_iff_getElem.1 h i j h1 h2 hij
def iw (l:List ByteArray)(key:ByteArray):Nat:=l.countP (fun x=>lo x key)
def hasK (l:List ByteArray)(key:ByteArray):Bool:=l.any (fun x=>decide (x=key))
theorem vM {l:List ByteArray}{key:ByteArray}:hasK l key=true↔key ∈ l:=by
 unfold hasK;rw [List.any_eq_true];constructor
 ·rintro ⟨x,hx,e⟩; rw [decide_eq_true_iff] at e; exact e ▸ hx
 exact fun h=>⟨key,h,by simp⟩
theorem ae2 {l:List ByteArray}{key:ByteArray}(i:Nat)(hi:i≤l.length)(h1:∀ x s,x<i→l[x]? = some s→lo s key=true)(h2:∀ x s,i≤x→l[x]? = some s→lo s key=false):iw l key=i:=by
 unfold iw;rw [← List.take_append_drop i l,List.countP_append];have e1:(l.take i).countP (fun x=>lo x key)=i:=by
  rw [List.countP_eq_length.2 (fun s hs=>?_),List.length_take]
  ·omega
  obtain ⟨x,hx,rfl⟩:=List.getElem_of_mem hs;rw [List.length_take] at hx;rw [List.getElem_take];exact h1 x _ (by omega) (List.getElem?_eq_getElem (by omega))
 have e2:(l.drop i).countP (fun x=>lo x key)=0:=by
  rw [List.countP_eq_zero];intro s hs;obtain ⟨x,hx,rfl⟩:=List.getElem_of_mem hs;rw [List.length_drop] at hx;have:=h2 (i+x) _ (by omega) (List.getElem?_eq_getElem (by omega));rw [List.getElem_drop,this];decide
 omega
theorem aiq {l:List ByteArray}{key s:ByteArray}(hr:yu l)(i:Nat)(h1:∀ x s,x<i→l[x]? = some s→lo s key=true)(hs:l[i]? = some s)(h2:lo s key=false):hasK l key=decide (s=key):=by
 by_cases e:s=key
 ·subst e
  rw [decide_eq_true rfl,vM];exact List.mem_of_getElem? hs
 rw [decide_eq_false e,← Bool.not_eq_true,vM];intro hm;obtain ⟨x,hx⟩:=List.getElem?_of_mem hm;rcases Nat.lt_trichotomy x i with c | c | c
 ·have:=h1 x key c hx; rw [dP] at this; cases this
 ·subst c; rw [hs] at hx; exact e (Option.some.inj hx)
 have:=Bd hr c hs hx; rw [this] at h2; cases h2
theorem abt {l:List ByteArray}{key:ByteArray}(h1:∀ x s,x<l.length→l[x]? = some s→lo s key=true):hasK l key=false:=by
 rw [← Bool.not_eq_true,vM];intro hm;obtain ⟨x,hx⟩:=List.getElem?_of_mem hm;have:=h1 x key (List.getElem?_eq_some_iff.1 hx).1 hx;rw [dP] at this;cases this
end
section
set_option linter.unusedVariables false
open Go.ChangeShapes Go.WideShapes Go.ChangeAt Go.RowKit
theorem abu {w:World}{g:Nat}{l:List ay}(c:Nat)(h:w.heap[g]? = some (.cells (kP l).toArray 51 (0,0))):PS w (.slice (some ⟨g,0,none⟩) l.length c) l:=by
 refine ⟨_,c,rfl,fun i q hq=>⟨g,0,rfl,fun j u hj=>?_⟩⟩;have aik:j<34:=by have:=(List.getElem?_eq_some_iff.1 hj).1; rwa [aO] at this
 have e:=Fg l i q hq j aik;rw [Nat.zero_add,cell_of_row _ _ _ _ _ _ h,List.getElem?_toArray,e,hj]
end
end Go.Proofs.YtljjcbmkbmloaaaGreatDoor
