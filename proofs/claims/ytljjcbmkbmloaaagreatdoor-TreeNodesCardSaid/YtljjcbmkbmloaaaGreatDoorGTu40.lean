import Derived.Test.YtljjcbmkbmloaaaGreatDoorGTu39
import Derived.Test.YtljjcbmkbmloaaaGreatDoorGTu14
import Derived.Test.YtljjcbmkbmloaaaGreatDoorGTuA
namespace Go.Proofs.YtljjcbmkbmloaaaGreatDoor
set_option maxHeartbeats 3200000
set_option maxRecDepth 100000
set_option linter.unusedVariables false
open Lib (hid)
open Go.ChangeShapes Go.WideShapes Go.ChangeAt Go.RowKit
theorem aje {w:World}{P D n b:Nat}{ks:bY}{F:Nat→Bool}{ad:bO}{cap:Nat}{x:bI}(h:PL w P D n ks F b)(hB:BS w (.slice ad 512 cap) x):∀ W,Touch [P] w W→BS W (.slice ad 512 cap) x:=by
 intro W hW;obtain ⟨a,c,he,hy,hn,hc⟩:=hB;injection he with e1 e2 e3;subst e1; subst e3;refine ⟨_,_,by rw [e2],hy,hn, ?_⟩;rcases hc with h0 | ⟨g,off,rfl,hc⟩
 ·exact .inl h0
 refine .inr ⟨g,off,rfl,fun i hi=>?_⟩;have c0:=hc i hi;have hg:g ≠ P:=by
  intro e;subst e;have c5:=hc 511 (by omega);rw [cell_of_row _ _ _ _ _ _ h.row,List.getElem?_toArray,List.getElem?_eq_none (by rw [GY _ _ _ _ _ h.kl]; omega)] at c5;cases c5
 rw [← c0];unfold World.cell?;rw [hW.block g (block_lt_of_cell c0) (by simpa using hg)]
def xP (n:az):bY:=ZQ (kC n)
theorem zZ {n:az}(h:checkN n=0):(xP n).length=512:=by unfold xP; rw [GX]; exact zy h
theorem Zi {n:az}(h:checkN n=0):gm (kC n):=by
 unfold kC;exact fun z hz=>(List.mem_append.1 hz).elim (Yn h z) (Fa _ z)
theorem G6 {n:az}(h:checkN n=0):(xP n).map yv=kC n:=S9 _ (Zi h)
theorem ada (P D n b:Nat)(ks:bY)(F:Nat→Bool)(k v p:Value)(nd:az)(w:World)(hp:PL w P D n ks F b)(hn:NR w k v p nd)(hnb:NB nd)(hb0:b ≠ 0)(hc:checkN nd=0)(hF:∀ a,F a=false) :
 Calls Tryz.prog 59 #[.pointer (some ⟨P,0,none⟩),.agg #[.bool nd.lf,k,v,p]] w fun e w'=>e = .returned (.tuple #[.agg (ag ai).toArray,.int .i64 6])∧Below w.heap.size w w':=by
 have b0:((b:Int) == 0)=false:=by simp; omega
 have Z4:=hid sZ
 have SZ:=hid (cZ ai)
 have SO:=hid (aW ai)
 have hz:=dF
 obtain ⟨hN0,QK,hsz,hb1⟩:=rE w (.cells #[.bool nd.lf,k,v,p] 118) (.cells (ag ai).toArray 51)
 have HNR:=hid (fun (W:World) (hW:Below w.heap.size w W)=>hn.below hW)
 have xy:=hid (fun (W:World) (hW:Below w.heap.size w W)=>hp.below hW)
 have SN:=hid (dS nd.lf k v p)
 have PX:=hid (fun (W:World) (hW:Below w.heap.size w W)=>Fq k v p nd W (hn.below hW) hnb hc)
 have ahw:=hid (fun (W:World) (hW:Below w.heap.size w W) (x:Value)=>QJ P D n b ks F x W (hp.below hW) hF)
 generalize Zf:(ag ai).toArray=PZ at *
 generalize hw1:(w.alloc (.cells #[.bool nd.lf,k,v,p] 118)).alloc (.cells PZ 51)=w1 at *
 have HN0:=hid hN0
 have Ba:=hid QK
 have HB1:=hid hb1
 have hbr:=(xy.out w1 hb1).birth
 clear hN0 QK hsz hb1 hp hn hnb Zf hb0 hc hF
 go_in
 go_upto_region 1 with fail
 try rw [hw1]
 clear hw1 hz
 go_wp2_with (first
  | (with_reducible refine wpList_load_row (o:=⟨some 18,_,_,_,_,_⟩) rfl 118 _ rfl w.heap.size rfl 118 #[.bool nd.lf,k,v,p] (0,0) _ HN0.out Tryz.underlying118 rfl SN.out ?_))
 refine (PX.out w1 HB1.out).mono ?_
 rintro e w2 ⟨a2,c2,rfl,hc2,adb,hb2⟩
 have HB2:=hid (HB1.out.trans (hb2.mono HB1.out.size))
 have xK:=hid ((hb2.block _ (lt_of_block Ba.out)).trans Ba.out)
 have ajf:=hid adb
 clear hb2 hbr PX xy HNR Ba adb
 go_wp2_with fail
 refine (ahw.out w2 HB2.out _).mono ?_
 rintro e w3 ⟨rfl,hb3⟩
 have HB3:=hid (HB2.out.trans (hb3.mono HB2.out.size))
 have lg:=hid ((hb3.block _ (lt_of_block xK.out)).trans xK.out)
 clear hb3 ahw
 go_wp2_with (first
  | (with_reducible refine wpList_store_row (o:=⟨none,.store _ (.tmp 4) _,_,_,_,_⟩) rfl 51 _ _ rfl (w.heap.size+1) PZ rfl rfl 51 PZ lg.out SZ.out rfl SO.out ?_))
 refine bodyPost_ret (v := .tuple #[.agg PZ,.int .i64 6]) (aj Tryz.results59 _ _ (w.heap.size+1) 51 PZ (0,0) _ rfl (setRow_heap _ (w.heap.size+1) _ PZ _ _ lg.out) Tryz.underlying51 rfl SZ.out _ rfl) rfl ⟨rfl,aG HB3.out (by omega) _⟩
theorem ade (P D gl bm n b a:Nat)(vw:Value)(V:bY)(ws:bW)(lim:Int)(dn:Bool)(kk m:bY)(F:Nat→Bool)(k v p:Value)(nd:az)(w:World)(hp:PL w P D n (kk++m) F b)(hd:PD w D gl bm n vw V ws lim dn)(hne:P ∉ l9 D gl bm vw)(hK:KT w)(hT:TZ w)(hKP:P ≠ 2)(hk:kk.length=32)(hm:m.length=32)(hn:NR w k v p nd)(hnb:NB nd)
 (hb:b<18446744073709551616) (hb0:b ≠ 0) (hc:checkN nd=0) (hF:F a=true) (hlow:∀ x,x<a→F x=false) (hws:ws.length≤1000000) :
 Calls Tryz.prog 59 #[.pointer (some ⟨P,0,none⟩),.agg #[.bool nd.lf,k,v,p]] w (JY P D gl bm n b vw V ws lim dn a (kk++m) F (fU kk b a (xP nd)) (eP b a ((fU kk b a (xP nd)).map yv)) w):=by
 have b0:((b:Int) == 0)=false:=by simp; omega
 have hz:=dF
 have SZ:=hid cZ
 have SO:=hid aW
 have SL:=hid (fun x y:ay=>show (ag x).toArray.size=(ag y).toArray.size by simp [aO])
 obtain ⟨hN0,QK,hsz,hb1⟩:=rE w (.cells #[.bool nd.lf,k,v,p] 118) (.cells (ag ai).toArray 51)
 have xy:=hid (fun (W:World) (hW:Below w.heap.size w W)=>hp.below hW)
 have bn:=hid (fun g hg=>hd.lt g hg)
 have zY:=hid hp.lt
 have SN:=hid (dS nd.lf k v p)
 have PX:=hid (fun (W:World) (hW:Below w.heap.size w W)=>Fq k v p nd W (hn.below hW) hnb hc)
 have HPP:=hid (fun (W:World) (hW:Below w.heap.size w W) (ad:bO) (cap:Nat) (hB:BS W (.slice ad 512 cap) (kC nd))=>U2 P D gl bm n b a cap vw V ws lim dn kk m F (xP nd) ad W (hp.below hW) (hd.below hW) hne (hK.below hW hK.pos) (hT.below hW) hKP hk hm (zZ hc) (by rw [G6 hc]; exact hB) (by rw [G6 hc]; exact aje (hp.below hW) hB) hb hb0 hF hlow hws)
 generalize fU kk b a (xP nd)=S at *
 generalize eP b a (S.map yv)=PT at *
 generalize Zf:(ag ai).toArray=PZ at *
 generalize hw1:(w.alloc (.cells #[.bool nd.lf,k,v,p] 118)).alloc (.cells PZ 51)=w1 at *
 have HN0:=hid hN0
 have Ba:=hid QK
 have HB1:=hid hb1
 have QH:=hid Zf
 have hbr:=(xy.out w1 hb1).birth
 clear hN0 QK hsz hb1 hp hd hne hK hT hKP hk hm hn hnb hb hb0 hc hF hlow hws Zf
 generalize kk++m=KM at *
 go_in
 go_upto_region 1 with fail
 try rw [hw1]
 clear hw1 hz
 go_wp2_with (first
  | (with_reducible refine wpList_load_row (o:=⟨some 18,_,_,_,_,_⟩) rfl 118 _ rfl w.heap.size rfl 118 #[.bool nd.lf,k,v,p] (0,0) _ HN0.out Tryz.underlying118 rfl SN.out ?_))
 refine (PX.out w1 HB1.out).mono ?_
 rintro e w2 ⟨a2,c2,rfl,hc2,adb,hb2⟩
 have HB2:=hid (HB1.out.trans (hb2.mono HB1.out.size))
 have xK:=hid ((hb2.block _ (lt_of_block Ba.out)).trans Ba.out)
 have ajf:=hid adb
 clear hb2 hbr PX xy Ba adb
 go_wp2_with fail
 refine (HPP.out w2 HB2.out _ _ ajf.out).mono ?_
 intro e w3 hpost
 clear HPP ajf
 have QI:∀ g,w.heap.size≤g→g ∉ P::l9 D gl bm vw:=fun g h e=>by
  rcases List.mem_cons.1 e with e | e
  ·have:=zY.out; omega
  have:=bn.out g e; omega
 rcases hpost with ⟨hg,rfl,hd3,hp3,ht3⟩ | ⟨hg,rfl,hp3,GL,hd3,ht3,hn3⟩
 ·have lg:=hid ((ht3.block _ (lt_of_block xK.out) (QI _ (by omega))).trans xK.out)
  have jM:=hid (And.intro hg (And.intro hd3 (And.intro hp3 ht3)));clear hg hd3 hp3 ht3 QI;rw [QH.out];go_wp2_with (first
   | (with_reducible refine wpList_store_row (o:=⟨none,.store _ (.tmp 4) _,_,_,_,_⟩) rfl 51 _ _ rfl (w.heap.size+1) PZ rfl rfl 51 PZ lg.out (by rw [← QH.out]; exact SZ.out _) rfl (by rw [← QH.out]; exact SO.out _) ?_))
  refine bodyPost_ret (v := .tuple #[.agg PZ,.int .i64 7]) (aj Tryz.results59 _ _ (w.heap.size+1) 51 PZ (0,0) _ rfl (setRow_heap _ (w.heap.size+1) _ PZ _ _ lg.out) Tryz.underlying51 rfl (by rw [← QH.out]; exact SZ.out _) _ rfl) rfl ?_;have ts:=lS w3 (w.heap.size+1) PZ;refine .inl ⟨jM.out.1,by rw [QH.out],jM.out.2.1.touch ts (fun g hg e=>by have:=bn.out g hg; simp at e; omega),jM.out.2.2.1.touch ts (by have:=zY.out; simp; omega), ?_⟩;exact ((Touch.of_below (l:=P::l9 D gl bm vw) HB2.out).trans jM.out.2.2.2).mX (ts.below (Nat.le_trans HB2.out.size jM.out.2.2.2.size) (by simp))
 ·have lg:=hid ((ht3.block _ (lt_of_block xK.out) (QI _ (by omega))).trans xK.out)
  have jM:=hid (And.intro hg (And.intro hd3 (And.intro hp3 ht3)));have Iw:=hid (fun g hg=>(hn3 g hg).imp id (fun h=>Nat.le_trans (Nat.succ_le_of_lt (lt_of_block xK.out)) h));obtain ⟨PR,Ky⟩:∃ PR,(ag PT).toArray=PR:=⟨_,rfl⟩
  have Dq:=hid Ky;rw [Ky];clear hg hd3 hp3 ht3 QI hn3 Ky;go_wp2_with (first
   | (with_reducible refine wpList_store_row (o:=⟨none,.store _ (.tmp 4) _,_,_,_,_⟩) rfl 51 _ _ rfl (w.heap.size+1) PR rfl rfl 51 PZ lg.out (by rw [← Dq.out]; exact SZ.out _) (by rw [← Dq.out,← QH.out]; exact SL.out _ _) (by rw [← Dq.out]; exact SO.out _) ?_))
  refine bodyPost_ret (v := .tuple #[.agg PR,.int .i64 0]) (aj Tryz.results59 _ _ (w.heap.size+1) 51 PR (0,0) _ rfl (setRow_heap _ (w.heap.size+1) _ PR _ _ lg.out) Tryz.underlying51 rfl (by rw [← Dq.out]; exact SZ.out _) _ rfl) rfl ?_;have ts:=lS w3 (w.heap.size+1) PR;refine .inr ⟨jM.out.1,by rw [Dq.out],jM.out.2.2.1.touch ts (by have:=zY.out; simp; omega),GL,jM.out.2.1.touch ts (fun g hg e=>?_), ?_,fun g hg=>(Iw.out g hg).imp id (fun h=>by omega)⟩
  ·simp only [l9,List.mem_cons,Option.mem_toList] at hg
   have hl:=fun g hg=>bn.out g hg;simp only [l9,List.mem_cons,Option.mem_toList] at hl;have hlt:g<w.heap.size∨w.heap.size+1<g:=by
    rcases hg with h | h | h | h
    ·exact .inl (hl g (.inl h))
    ·exact .inl (hl g (.inr (.inl h)))
    ·exact .inl (hl g (.inr (.inr (.inl h))))
    rcases Iw.out g h with h | h
    ·exact .inl (hl g (.inr (.inr (.inr h))))
    exact .inr (by omega)
   simp at e;omega
  exact ((Touch.of_below (l:=P::l9 D gl bm vw) HB2.out).trans jM.out.2.2.2).mX (ts.below (Nat.le_trans HB2.out.size jM.out.2.2.2.size) (by simp))
def jh:Array Value:=#[.bool false,.slice none 0 0,.slice none 0 0,.slice none 0 0]
theorem qJ (W:World):(Instr.build 118 #[]).run Tryz.prog W = .ok (.agg jh) W:=by kernel_rfl
theorem uo (W:World):(zeroValue 118).run Tryz.prog W = .ok (.agg jh) W:=by kernel_rfl
theorem U4 {q:ay}{n:Nat}(h0:q.ad ≠ 0)(hc:iE q n=0):∃ a:Nat,q.ad=(a:Int)∧2≤a∧a<n∧q.bi ≠ 0:=by
 unfold iE Lm at hc;rw [if_neg h0] at hc;have hx:(decide (2≤q.ad) && decide (q.ad<(n:Int)) && decide (q.bi ≠ 0))=true:=by
  cases hm:(decide (2≤q.ad) && decide (q.ad<(n:Int)) && decide (q.bi ≠ 0)) with
  | true=>rfl
  | false=>rw [hm] at hc; simp at hc
 simp only [Bool.and_eq_true,decide_eq_true_eq] at hx;exact ⟨q.ad.toNat,by omega,by omega,by omega,hx.2⟩
theorem adf (P D gl bm n b:Nat)(vw:Value)(V:bY)(ws:bW)(lim:Int)(dn:Bool)(ks:bY)(F:Nat→Bool)(q:ay)(w:World)(hp:PL w P D n ks F b)(hd:PD w D gl bm n vw V ws lim dn)(h0:q.ad=0) :
 Calls Tryz.prog 45 #[.pointer (some ⟨P,0,none⟩),.agg (ag q).toArray] w fun e w'=>e = .returned (.tuple #[.agg jh,.int .i64 2])∧Below w.heap.size w w':=by
 have Z4:=hid qJ
 have hz:=uo
 obtain ⟨hN0,QK,hsz,hb1⟩:=rE w (.cells (ag q).toArray 51) (.cells jh 118)
 have SQ:=hid (dL q)
 have SZ:=hid (show (Tryz.prog.info? 118).map (·.size)=some jh.size from dS false _ _ _)
 have SO:=hid (show jh.all (·.oneCell')=true by unfold jh; simp [Value.oneCell'])
 have xy:=hid (fun (W:World) (hW:Below w.heap.size w W)=>hp.below hW)
 have LJ:=hid (fun (W:World) (hW:Below w.heap.size w W)=>hd.below hW)
 have hrg:=qM hN0
 have lW:=hid (lG hN0)
 have G7:=hid (fun (W:World)=>dR q W)
 have HSI:=hid (fun (W:World) (hW:Below w.heap.size w W)=>rY D gl bm n vw V ws lim dn W (hd.below hW))
 have Ws:=hid (fun (W:World)=>pF q (n:Int) W)
 have hnu:(q.ad == 0)=true:=by simpa using h0
 rw [hnu] at G7
 have Ba:=hid QK
 have HB1:=hid hb1
 have HAD:=hid hrg.1
 generalize hZ:jh=Z at *
 have HZ:=hid hZ
 have IV:=(xy.out _ hb1).dev
 generalize hQL:ag q=QL at *
 generalize hw1:(w.alloc (.cells QL.toArray 51)).alloc (.cells Z 118)=w1 at *
 have ZT:=hid hQL
 clear hN0 QK hsz hb1 hp hd hrg hZ hQL h0 hnu
 go_in
 go_upto_region 3 with fail
 try rw [hw1]
 clear hw1 hz
 have G8:=oL IV
 have QM:=hid (fun p:dW w1=>HSI.out p.now (HB1.out.trans (p.bel.mono HB1.out.size)))
 refine bZ (by kernel_rfl) (by kernel_rfl) ?_
 repeat (first
  | (with_reducible refine dN (o:=⟨some 12,_,_,_,_,_⟩) (by kernel_rfl) 51 _ rfl w.heap.size 0 rfl QL _ (jF lW.out) Tryz.underlying51 rfl SQ.out ?_
     simp only [Act.put,pZ])
  | (go_big_quiet_step (first
      | (go_at_call 21; exact fE (G7.out _)))))
 refine wpQuiet_nil ?_
 intro _ hw'
 obtain ⟨p3,hw''⟩:=hw'
 subst hw''
 clear G8
 have HB3:=hid (HB1.out.trans (p3.bel.mono HB1.out.size))
 have lg:=hid ((p3.bel.block _ (lt_of_block Ba.out)).trans Ba.out)
 go_wp2_with (first
  | (with_reducible refine bD (o:=⟨some 24,_,_,_,_,_⟩) rfl 118 _ rfl #[] (by simp [Act.eval]) (.agg Z) (Z4.out _) ?_)
  | (with_reducible refine wpList_store_row (o:=⟨none,.store _ (.tmp 4) _,_,_,_,_⟩) rfl 118 _ _ rfl (w.heap.size+1) Z rfl rfl 118 Z lg.out SZ.out rfl SO.out ?_))
 refine bodyPost_ret (v := .tuple #[.agg Z,.int .i64 2]) (aj Tryz.results45 _ _ (w.heap.size+1) 118 Z (0,0) _ rfl (setRow_heap _ (w.heap.size+1) _ Z _ _ lg.out) Tryz.underlying118 rfl SZ.out _ rfl) rfl ⟨rfl,aG HB3.out (by omega) _⟩
theorem agm (P D gl bm n b:Nat)(vw:Value)(V:bY)(ws:bW)(lim:Int)(dn:Bool)(ks:bY)(F:Nat→Bool)(q:ay)(w:World)(hp:PL w P D n ks F b)(hd:PD w D gl bm n vw V ws lim dn)(h0:q.ad ≠ 0)(hc:iE q n ≠ 0) :
 Calls Tryz.prog 45 #[.pointer (some ⟨P,0,none⟩),.agg (ag q).toArray] w fun e w'=>e = .returned (.tuple #[.agg jh,.int .i64 2])∧Below w.heap.size w w':=by
 have Z4:=hid qJ
 have hz:=uo
 obtain ⟨hN0,QK,hsz,hb1⟩:=rE w (.cells (ag q).toArray 51) (.cells jh 118)
 have SQ:=hid (dL q)
 have SZ:=hid (show (Tryz.prog.info? 118).map (·.size)=some jh.size from dS false _ _ _)
 have SO:=hid (show jh.all (·.oneCell')=true by unfold jh; simp [Value.oneCell'])
 have xy:=hid (fun (W:World) (hW:Below w.heap.size w W)=>hp.below hW)
 have LJ:=hid (fun (W:World) (hW:Below w.heap.size w W)=>hd.below hW)
 have hrg:=qM hN0
 have lW:=hid (lG hN0)
 have G7:=hid (fun (W:World)=>dR q W)
 have HSI:=hid (fun (W:World) (hW:Below w.heap.size w W)=>rY D gl bm n vw V ws lim dn W (hd.below hW))
 have Ws:=hid (fun (W:World)=>pF q (n:Int) W)
 have hnu:(q.ad == 0)=false:=by simpa using h0
 rw [hnu] at G7
 have hce:(iE q n != 0)=true:=by simpa using hc
 generalize iE q n=ce at *
 have Ba:=hid QK
 have HB1:=hid hb1
 have HAD:=hid hrg.1
 generalize hZ:jh=Z at *
 have HZ:=hid hZ
 have IV:=(xy.out _ hb1).dev
 generalize hQL:ag q=QL at *
 generalize hw1:(w.alloc (.cells QL.toArray 51)).alloc (.cells Z 118)=w1 at *
 have ZT:=hid hQL
 clear hN0 QK hsz hb1 hp hd hrg hZ hQL h0 hc hnu
 go_in
 go_upto_region 3 with fail
 try rw [hw1]
 clear hw1 hz
 have G8:=oL IV
 have QM:=hid (fun p:dW w1=>HSI.out p.now (HB1.out.trans (p.bel.mono HB1.out.size)))
 refine bZ (by kernel_rfl) (by kernel_rfl) ?_
 repeat (first
  | (with_reducible refine dN (o:=⟨some 12,_,_,_,_,_⟩) (by kernel_rfl) 51 _ rfl w.heap.size 0 rfl QL _ (jF lW.out) Tryz.underlying51 rfl SQ.out ?_
     simp only [Act.put,pZ])
  | (with_reducible refine dN (o:=⟨some 15,_,_,_,_,_⟩) (by kernel_rfl) 51 _ rfl w.heap.size 0 rfl QL _ (jF lW.out) Tryz.underlying51 rfl SQ.out ?_
     simp only [Act.put,pZ])
  | (go_big_quiet_step (first
      | (go_at_call 21; exact fE (G7.out _))
      | (go_at_call 43; exact fA (QM.out _))
      | (go_at_call 62; exact fE (Ws.out _)))))
 refine wpQuiet_nil ?_
 intro _ hw'
 obtain ⟨p3,hw''⟩:=hw'
 subst hw''
 clear G8
 have HB3:=hid (HB1.out.trans (p3.bel.mono HB1.out.size))
 have lg:=hid ((p3.bel.block _ (lt_of_block Ba.out)).trans Ba.out)
 go_wp2_with (first
  | (with_reducible refine bD (o:=⟨some 24,_,_,_,_,_⟩) rfl 118 _ rfl #[] (by simp [Act.eval]) (.agg Z) (Z4.out _) ?_)
  | (with_reducible refine wpList_store_row (o:=⟨none,.store _ (.tmp 4) _,_,_,_,_⟩) rfl 118 _ _ rfl (w.heap.size+1) Z rfl rfl 118 Z lg.out SZ.out rfl SO.out ?_))
 refine bodyPost_ret (v := .tuple #[.agg Z,.int .i64 2]) (aj Tryz.results45 _ _ (w.heap.size+1) 118 Z (0,0) _ rfl (setRow_heap _ (w.heap.size+1) _ Z _ _ lg.out) Tryz.underlying118 rfl SZ.out _ rfl) rfl ⟨rfl,aG HB3.out (by omega) _⟩
theorem adh (P D gl bm n b:Nat)(vw:Value)(V:bY)(ws:bW)(lim:Int)(dn:Bool)(ks:bY)(F:Nat→Bool)(q:ay)(w:World)(hp:PL w P D n ks F b)(hd:PD w D gl bm n vw V ws lim dn)(h0:q.ad ≠ 0)(hc:iE q n=0)(hdn:dn=true) :
 Calls Tryz.prog 45 #[.pointer (some ⟨P,0,none⟩),.agg (ag q).toArray] w fun e w'=>e = .returned (.tuple #[.agg jh,.int .i64 7])∧Below w.heap.size w w':=by
 have Z4:=hid qJ
 have hz:=uo
 obtain ⟨hN0,QK,hsz,hb1⟩:=rE w (.cells (ag q).toArray 51) (.cells jh 118)
 have SQ:=hid (dL q)
 have SZ:=hid (show (Tryz.prog.info? 118).map (·.size)=some jh.size from dS false _ _ _)
 have SO:=hid (show jh.all (·.oneCell')=true by unfold jh; simp [Value.oneCell'])
 have xy:=hid (fun (W:World) (hW:Below w.heap.size w W)=>hp.below hW)
 have LJ:=hid (fun (W:World) (hW:Below w.heap.size w W)=>hd.below hW)
 have hrg:=qM hN0
 have lW:=hid (lG hN0)
 have G7:=hid (fun (W:World)=>dR q W)
 have HSI:=hid (fun (W:World) (hW:Below w.heap.size w W)=>rY D gl bm n vw V ws lim dn W (hd.below hW))
 have Ws:=hid (fun (W:World)=>pF q (n:Int) W)
 obtain ⟨a,ha,ha2,Lh,_⟩:=U4 h0 hc
 have hnu:(q.ad == 0)=false:=by simpa using h0
 rw [hnu] at G7
 rw [hc] at Ws
 have wE:=hid (show a<4294967296 by have:=q.a0; omega)
 have HA:=hid ha
 have nZ:=hid (fun (W:World) (hW:Below w.heap.size w W)=>UI D gl bm n a vw V ws lim W (by have h:=hd.below hW; rw [hdn] at h; exact h) Lh)
 have Ba:=hid QK
 have HB1:=hid hb1
 have HAD:=hid hrg.1
 generalize hZ:jh=Z at *
 have HZ:=hid hZ
 have IV:=(xy.out _ hb1).dev
 generalize hQL:ag q=QL at *
 generalize hw1:(w.alloc (.cells QL.toArray 51)).alloc (.cells Z 118)=w1 at *
 have ZT:=hid hQL
 clear hN0 QK hsz hb1 hp hd hrg hZ hQL h0 hc hnu ha Lh ha2 hdn
 go_in
 go_upto_region 3 with fail
 try rw [hw1]
 clear hw1 hz
 have G8:=oL IV
 have QM:=hid (fun p:dW w1=>HSI.out p.now (HB1.out.trans (p.bel.mono HB1.out.size)))
 refine bZ (by kernel_rfl) (by kernel_rfl) ?_
 repeat (first
  | (with_reducible refine dN (o:=⟨some 12,_,_,_,_,_⟩) (by kernel_rfl) 51 _ rfl w.heap.size 0 rfl QL _ (jF lW.out) Tryz.underlying51 rfl SQ.out ?_
     simp only [Act.put,pZ])
  | (with_reducible refine dN (o:=⟨some 15,_,_,_,_,_⟩) (by kernel_rfl) 51 _ rfl w.heap.size 0 rfl QL _ (jF lW.out) Tryz.underlying51 rfl SQ.out ?_
     simp only [Act.put,pZ])
  | (go_big_quiet_step (first
      | (go_at_call 21; exact fE (G7.out _))
      | (go_at_call 43; exact fA (QM.out _))
      | (go_at_call 62; exact fE (Ws.out _)))))
 refine wpQuiet_nil ?_
 intro _ hw'
 obtain ⟨p3,hw''⟩:=hw'
 subst hw''
 clear G8
 have HB3:=hid (HB1.out.trans (p3.bel.mono HB1.out.size))
 have lg:=hid ((p3.bel.block _ (lt_of_block Ba.out)).trans Ba.out)
 have SY:=hid p3.bel
 obtain ⟨w3,hw3⟩:∃ z,z=p3.now:=⟨_,rfl⟩
 rw [← hw3] at HB3 lg SY ⊢
 clear hw3 p3 G7 HSI Ws QM
 go_upto_region 5 with fail
 have had:=HAD.out
 have nT:=hid (fun (W:World) (hW:Below w3.heap.size w3 W)=>show W.cell? ⟨P,0,none⟩=some (.pointer (some ⟨D,0,none⟩))∧W.cell? ⟨w.heap.size,0,none⟩=some (.int .u32 (a:Int)) from ⟨(xy.out W (HB3.out.trans (hW.mono HB3.out.size))).dev,by rw [← HA.out]; exact ((SY.out.trans (hW.mono SY.out.size)).cell (p:=⟨w.heap.size,0,none⟩) (block_lt_of_cell HAD.out)).trans HAD.out⟩)
 have Iz:=hid (HB3.out.trans (Below.refl _ _).drew)
 clear had
 try simp only [Act.put]
 refine wp_region_noPanic ?_
 refine wp_region_held_drew (S:=fun W=>W.cell? ⟨P,0,none⟩=some (.pointer (some ⟨D,0,none⟩))∧W.cell? ⟨w.heap.size,0,none⟩=some (.int .u32 (a:Int))) (by kernel_rfl) (nT.out _ (Below.refl _ _).drew) (fun hHeld=>?_)
 refine tR 0 26 (h:=tR 1 27 (h:=?_))
 refine tK 2 28 ?_ rfl (Or.inl ⟨by rfl, ?_⟩) ?_
 rotate_left 1
 ·(intro w' hSw; clear hSw; go_simp; try with_reducible rfl)
 try simp only [Act.put,pZ]
 refine tK 3 29 ?_ rfl (Or.inl ⟨by rfl, ?_⟩) ?_
 rotate_left 1
 ·(intro w' hSw; have hc:=hSw.1; clear hSw; go_simp; try with_reducible rfl)
 try simp only [Act.put,pZ]
 refine tR 4 30 (h:=?_)
 refine tK 5 31 ?_ rfl (Or.inl ⟨by rfl, ?_⟩) ?_
 rotate_left 1
 ·(intro w' hSw; have hc:=hSw.2; clear hSw; go_simp; try with_reducible rfl)
 try simp only [Act.put,pZ]
 clear hHeld
 refine rD 6 rfl fun K hK=>?_
 go_simp
 go_at_call 63
 refine (nZ.out _ Iz.out).mono ?_
 rintro e w4 ⟨rfl,rfl⟩
 go_wp2_with fail
 refine hK.out _ _ (nT.out _ (Below.refl _ _).drew) (fun hHeld=>?_)
 clear hK K
 try simp only [Act.put,pZ]
 refine tR 7 25 (h:=tR 8 33 (h:=tR 9 34 (h:=tR 10 6 (h:=tR 11 7 (h:=?_)))))
 clear hHeld
 refine wpAnyH_done (by decide +kernel) ?_ _
 refine NoPanic.normal ?_
 have nC:=hid (show w3.drew.heap[w.heap.size+1]? = some (.cells Z 118 (0,0)) from lg.out)
 clear nT lg HB3 IV
 go_wp2_with (first
  | (with_reducible refine bD (o:=⟨some 37,_,_,_,_,_⟩) rfl 118 _ rfl #[] (by simp [Act.eval]) (.agg Z) (Z4.out _) ?_)
  | (with_reducible refine wpList_store_row (o:=⟨none,.store _ (.tmp 4) _,_,_,_,_⟩) rfl 118 _ _ rfl (w.heap.size+1) Z rfl rfl 118 Z nC.out SZ.out rfl SO.out ?_))
 refine bodyPost_ret (v := .tuple #[.agg Z,.int .i64 7]) (aj Tryz.results45 _ _ (w.heap.size+1) 118 Z (0,0) _ rfl (setRow_heap _ (w.heap.size+1) _ Z _ _ nC.out) Tryz.underlying118 rfl SZ.out _ rfl) rfl ⟨rfl,aG Iz.out (by omega) _⟩
def upR (k:bY)(q:ay)(L:bY):az×Int:=if (kV k q L).2 ≠ 0 then (je,(kV k q L).2) else yB ((kV k q L).1.map yv)
theorem ajh {w:World}{k v p:Value}{n:az}(h:NR w k v p n)(b:Bool):(#[.bool b,k,v,p]:Array Value).all (·.oneCell')=true:=by
 obtain ⟨a1,c1,e1,_⟩:=h.ks;obtain ⟨a2,c2,e2,_⟩:=h.vs;obtain ⟨a3,c3,e3,_⟩:=h.ps;subst e1; subst e2; subst e3;simp [Value.oneCell']
theorem aji (P D gl bm n b:Nat)(vw:Value)(V:bY)(ws:bW)(lim:Int)(dn:Bool)(ks:bY)(F:Nat→Bool)(q:ay)(w:World)(hp:PL w P D n ks F b)(hd:PD w D gl bm n vw V ws lim dn)(kk m:bY)(hks:ks=kk++m)(hk:kk.length=32)(hm:m.length=32)(hK:KT w)(a:Nat)(h0:q.ad ≠ 0)(hc:iE q n=0)(hdn:dn=false)(ha:q.ad=(a:Int))(L:bY)(hL:uD V ws a=L) :
 Calls Tryz.prog 45 #[.pointer (some ⟨P,0,none⟩),.agg (ag q).toArray] w fun e w'=>∃ k v p',e = .returned (.tuple #[.agg #[.bool (upR kk q L).1.lf,k,v,p'],.int .i64 (upR kk q L).2])∧NR w' k v p' (upR kk q L).1∧Below w.heap.size w w':=by
 have Z4:=hid qJ
 have hz:=uo
 obtain ⟨hN0,QK,hsz,hb1⟩:=rE w (.cells (ag q).toArray 51) (.cells jh 118)
 have SQ:=hid (dL q)
 have SZ:=hid (show (Tryz.prog.info? 118).map (·.size)=some jh.size from dS false _ _ _)
 have SO:=hid (show jh.all (·.oneCell')=true by unfold jh; simp [Value.oneCell'])
 have xy:=hid (fun (W:World) (hW:Below w.heap.size w W)=>hp.below hW)
 have LJ:=hid (fun (W:World) (hW:Below w.heap.size w W)=>hd.below hW)
 have hrg:=qM hN0
 have lW:=hid (lG hN0)
 have G7:=hid (fun (W:World)=>dR q W)
 have HSI:=hid (fun (W:World) (hW:Below w.heap.size w W)=>rY D gl bm n vw V ws lim dn W (hd.below hW))
 have Ws:=hid (fun (W:World)=>pF q (n:Int) W)
 have hnu:(q.ad == 0)=false:=by simpa using h0
 rw [hnu] at G7
 rw [hc] at Ws
 have Lh:a<n:=by obtain ⟨a',ha',_,h,_⟩:=U4 h0 hc; omega
 have HA:=hid ha
 have nZ:=hid (fun (W:World) (hW:Below w.heap.size w W)=>acP D gl bm n a vw V ws lim W (by have h:=hd.below hW; rw [hdn] at h; exact h) Lh)
 rw [hL] at nZ
 have Ea:=hid (fun (W:World) (hW:Below w.heap.size w W) (X:Nat) (hX:aU W X 140 L) (hl:L.length=512)=>QD kk m q L (some ⟨X,0,none⟩) 512 512 W (hK.below hW hK.pos) hk hm (Bts.arr hX hl (by decide)))
 have HOL:=hid (show (kV kk q L).1.length≤512∨(kV kk q L).2 ≠ 0 from by
  unfold kV;by_cases h5:L.length ≠ 512
  ·rw [if_pos h5]; exact .inr (by simp)
  rw [if_neg h5];by_cases h6:Df q (L.map yv)=true
  ·rw [if_pos h6]; exact .inl (by rw [jc _ _ _ _ (by omega)]; exact Nat.le_refl _)
  rw [if_neg h6]; exact .inr (by simp))
 have HUR:=hid (show upR kk q L=if (kV kk q L).2 ≠ 0 then (je,(kV kk q L).2) else yB ((kV kk q L).1.map yv) from rfl)
 have IK:=hid (Di (kk++m) (by rw [← hks]; exact hp.kl))
 have HKS:=hid hks
 have Ba:=hid QK
 have HB1:=hid hb1
 have HAD:=hid hrg.1
 generalize upR kk q L=ur at *
 generalize (kV kk q L).1=ol at *
 generalize (kV kk q L).2=oe at *
 generalize hZ:jh=Z at *
 have HZ:=hid hZ
 have IV:=(xy.out _ hb1).dev
 generalize hQL:ag q=QL at *
 generalize hw1:(w.alloc (.cells QL.toArray 51)).alloc (.cells Z 118)=w1 at *
 have ZT:=hid hQL
 clear hN0 QK hsz hb1 hp hd hrg hZ hQL h0 hc hnu Lh ha hdn hL hks hk hm hK
 go_in
 go_upto_region 3 with fail
 try rw [hw1]
 clear hw1 hz
 have G8:=oL IV
 have QM:=hid (fun p:dW w1=>HSI.out p.now (HB1.out.trans (p.bel.mono HB1.out.size)))
 refine bZ (by kernel_rfl) (by kernel_rfl) ?_
 repeat (first
  | (with_reducible refine dN (o:=⟨some 12,_,_,_,_,_⟩) (by kernel_rfl) 51 _ rfl w.heap.size 0 rfl QL _ (jF lW.out) Tryz.underlying51 rfl SQ.out ?_
     simp only [Act.put,pZ])
  | (with_reducible refine dN (o:=⟨some 15,_,_,_,_,_⟩) (by kernel_rfl) 51 _ rfl w.heap.size 0 rfl QL _ (jF lW.out) Tryz.underlying51 rfl SQ.out ?_
     simp only [Act.put,pZ])
  | (go_big_quiet_step (first
      | (go_at_call 21; exact fE (G7.out _))
      | (go_at_call 43; exact fA (QM.out _))
      | (go_at_call 62; exact fE (Ws.out _)))))
 refine wpQuiet_nil ?_
 intro _ hw'
 obtain ⟨p3,hw''⟩:=hw'
 subst hw''
 clear G8
 have HB3:=hid (HB1.out.trans (p3.bel.mono HB1.out.size))
 have lg:=hid ((p3.bel.block _ (lt_of_block Ba.out)).trans Ba.out)
 have SY:=hid p3.bel
 obtain ⟨w3,hw3⟩:∃ z,z=p3.now:=⟨_,rfl⟩
 rw [← hw3] at HB3 lg SY ⊢
 clear hw3 p3 G7 HSI Ws QM
 go_upto_region 5 with fail
 have had:=HAD.out
 have nT:=hid (fun (W:World) (hW:Below w3.heap.size w3 W)=>show W.cell? ⟨P,0,none⟩=some (.pointer (some ⟨D,0,none⟩))∧W.cell? ⟨w.heap.size,0,none⟩=some (.int .u32 (a:Int)) from ⟨(xy.out W (HB3.out.trans (hW.mono HB3.out.size))).dev,by rw [← HA.out]; exact ((SY.out.trans (hW.mono SY.out.size)).cell (p:=⟨w.heap.size,0,none⟩) (block_lt_of_cell HAD.out)).trans HAD.out⟩)
 have Iz:=hid (HB3.out.trans (Below.refl _ _).drew)
 clear had
 try simp only [Act.put]
 refine wp_region_noPanic ?_
 refine wp_region_held_drew (S:=fun W=>W.cell? ⟨P,0,none⟩=some (.pointer (some ⟨D,0,none⟩))∧W.cell? ⟨w.heap.size,0,none⟩=some (.int .u32 (a:Int))) (by kernel_rfl) (nT.out _ (Below.refl _ _).drew) (fun hHeld=>?_)
 refine tR 0 26 (h:=tR 1 27 (h:=?_))
 refine tK 2 28 ?_ rfl (Or.inl ⟨by rfl, ?_⟩) ?_
 rotate_left 1
 ·(intro w' hSw; clear hSw; go_simp; try with_reducible rfl)
 try simp only [Act.put,pZ]
 refine tK 3 29 ?_ rfl (Or.inl ⟨by rfl, ?_⟩) ?_
 rotate_left 1
 ·(intro w' hSw; have hc:=hSw.1; clear hSw; go_simp; try with_reducible rfl)
 try simp only [Act.put,pZ]
 refine tR 4 30 (h:=?_)
 refine tK 5 31 ?_ rfl (Or.inl ⟨by rfl, ?_⟩) ?_
 rotate_left 1
 ·(intro w' hSw; have hc:=hSw.2; clear hSw; go_simp; try with_reducible rfl)
 try simp only [Act.put,pZ]
 clear hHeld
 refine rD 6 rfl fun K hK=>?_
 go_simp
 go_at_call 63
 refine (nZ.out _ Iz.out).mono ?_
 rintro e w4 ⟨rfl,hA4,hL4,hb4⟩
 have HB4:=hid (Iz.out.trans (hb4.mono Iz.out.size))
 have yO:=hid (((Below.refl w3.heap.size w3).drew).trans (hb4.mono (Nat.le_refl _)))
 have BI:=hid hA4
 have HL4:=hid hL4
 clear hA4 hL4 hb4 nZ
 go_wp2_with fail
 refine hK.out _ _ (nT.out _ yO.out) (fun hHeld=>?_)
 clear hK K
 try simp only [Act.put,pZ]
 refine tR 7 25 (h:=tR 8 33 (h:=tR 9 34 (h:=tR 10 6 (h:=tR 11 7 (h:=?_)))))
 clear hHeld
 refine wpAnyH_done (by decide +kernel) ?_ _
 refine NoPanic.normal ?_
 have nC:=hid ((yO.out.block _ (lt_of_block lg.out)).trans lg.out)
 have HR4:=hid (fun (W:World) (hW:Below w4.heap.size w4 W)=>show W.rangeAt P 1 (aF (kk++m)).toList∧W.rangeAt w.heap.size 0 QL from
  ⟨by rw [← HKS.out]; exact (xy.out W (HB4.out.trans (hW.mono HB4.out.size))).keys,fun j x hj=>(((SY.out.trans (yO.out.mono SY.out.size)).trans (hW.mono (Nat.le_trans SY.out.size yO.out.size))).cell (block_lt_of_cell (lW.out j x hj))).trans (lW.out j x hj)⟩)
 have agn:=hid (HB4.out.trans (Below.refl _ _).drew)
 have anA:=hid (show aU w4.drew w3.heap.size 140 L from BI.out)
 clear nT lg HB3 IV HAD HA
 go_upto_region 8 with fail
 try simp only [Act.put]
 refine wp_region_noPanic ?_
 refine wp_region_held_drew (S:=fun W=>W.rangeAt P 1 (aF (kk++m)).toList∧W.rangeAt w.heap.size 0 QL) (by kernel_rfl) (HR4.out _ (Below.refl _ _).drew) (fun hHeld=>?_)
 refine tR 0 40 (h:=tR 1 41 (h:=?_))
 refine tK 2 42 ?_ rfl (Or.inl ⟨by rfl, ?_⟩) ?_
 rotate_left 1
 ·(intro w' hSw; clear hSw; go_simp; try with_reducible rfl)
 try simp only [Act.put,pZ]
 refine tK 3 43 _ rfl (yieldsIf_load_mid (by rfl) _ _ rfl P 1 rfl (aF (kk++m)).toList _ (fun w' h=>h.1) Tryz.underlying60 rfl IK.out) ?_
 try simp only [Act.put,pZ,Array.toArray_toList]
 refine tK 4 44 _ rfl (yieldsIf_load_mid (by rfl) _ _ rfl w.heap.size 0 rfl QL _ (fun w' h=>h.2) Tryz.underlying51 rfl SQ.out) ?_
 try simp only [Act.put,pZ]
 refine tR 5 45 (h:=?_)
 clear hHeld
 refine rD 6 rfl fun K hK=>?_
 go_simp
 go_at_call 64
 refine (Ea.out _ agn.out _ anA.out HL4.out).mono ?_
 rintro e w5 ⟨x,y,z,rfl,hbt,hb5⟩
 have gp:=hid (agn.out.trans (hb5.mono agn.out.size))
 have nT:=hid (((Below.refl w4.heap.size w4).drew).trans (hb5.mono (Nat.le_refl _)))
 have HBT:=hid hbt.1
 clear hbt hb5 Ea
 go_wp2_with fail
 refine hK.out _ _ (HR4.out _ nT.out) (fun hHeld=>?_)
 clear hK K
 try simp only [Act.put,pZ]
 refine tR 7 39 (h:=tR 8 47 (h:=tR 9 48 (h:=tR 10 8 (h:=tR 11 7 (h:=?_)))))
 clear hHeld
 refine wpAnyH_done (by decide +kernel) ?_ _
 refine NoPanic.normal ?_
 have qX:=hid ((nT.out.block _ (lt_of_block nC.out)).trans nC.out)
 clear HR4 nC nT yO agn anA BI Iz HL4
 by_cases hoe:oe=0
 ·subst hoe
  have hol:ol.length≤512:=by rcases HOL.out with h | h; exact h; exact absurd rfl h
  have hur:ur=yB (ol.map yv):=by rw [HUR.out,if_neg (by simp)]
  have HGT:=hid (abA (.slice x y z) (ol.map yv) w5 HBT.out (by rw [List.length_map]; omega));rw [← hur] at HGT;clear hol hur HOL HUR HBT;go_wp2_with fail;refine HGT.out.mono ?_;rintro e w6 ⟨k6,v6,p6,rfl,U5,hb6⟩;have lu:=hid (gp.out.trans (hb6.mono gp.out.size));have kR:=hid ((hb6.block _ (lt_of_block qX.out)).trans qX.out);have HN6:=hid U5;have SR:=hid (dS ur.1.lf k6 v6 p6);have SRZ:=hid (show Z.size=(#[.bool ur.1.lf,k6,v6,p6]:Array Value).size by rw [← HZ.out]; rfl);have SRO:=hid (show (#[.bool ur.1.lf,k6,v6,p6]:Array Value).all (·.oneCell')=true from ajh U5 _);clear hb6 U5 HGT gp qX;go_wp2_with (first
   | (with_reducible refine wpList_store_row (o:=⟨none,.store _ (.tmp 4) _,_,_,_,_⟩) rfl 118 _ _ rfl (w.heap.size+1) #[.bool ur.1.lf,k6,v6,p6] rfl rfl 118 Z kR.out SR.out SRZ.out SRO.out ?_))
  have hz6:w6.heap[w.heap.size+1]? = some (.cells #[.bool false,.slice none 0 0,.slice none 0 0,.slice none 0 0] 118 (0,0)):=by rw [kR.out,← HZ.out]; rfl
  obtain ⟨zk,zp⟩:=TL hz6;exact bodyPost_ret (v := .tuple #[.agg #[.bool ur.1.lf,k6,v6,p6],.int .i64 ur.2]) (aj Tryz.results45 _ _ (w.heap.size+1) 118 #[.bool ur.1.lf,k6,v6,p6] (0,0) _ rfl (setRow_heap _ (w.heap.size+1) _ _ _ _ kR.out) Tryz.underlying118 rfl SR.out _ rfl) rfl ⟨k6,v6,p6,rfl,abz HN6.out hz6 zk zp,aG lu.out (by omega) _⟩
 ·have auJ:(oe != 0)=true:=by simpa using hoe
  have hur:ur=(je,oe):=by rw [HUR.out,if_pos hoe]
  have HUE:=hid hur;clear hoe hur HOL HUR HBT;go_wp2_with (first
   | (with_reducible refine bD (o:=⟨some 51,_,_,_,_,_⟩) rfl 118 _ rfl #[] (by simp [Act.eval]) (.agg Z) (Z4.out _) ?_)
   | (with_reducible refine wpList_store_row (o:=⟨none,.store _ (.tmp 4) _,_,_,_,_⟩) rfl 118 _ _ rfl (w.heap.size+1) Z rfl rfl 118 Z qX.out SZ.out rfl SO.out ?_))
  refine bodyPost_ret (v := .tuple #[.agg Z,.int .i64 oe]) (aj Tryz.results45 _ _ (w.heap.size+1) 118 Z (0,0) _ rfl (setRow_heap _ (w.heap.size+1) _ Z _ _ qX.out) Tryz.underlying118 rfl SZ.out _ rfl) rfl ⟨.slice none 0 0,.slice none 0 0,.slice none 0 0, ?_, ?_,aG gp.out (by omega) _⟩
  ·rw [HUE.out,← HZ.out]; rfl
  rw [HUE.out]; exact qw _
end Go.Proofs.YtljjcbmkbmloaaaGreatDoor
