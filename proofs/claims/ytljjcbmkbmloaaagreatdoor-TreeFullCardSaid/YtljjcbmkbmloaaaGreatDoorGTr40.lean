import Derived.Test.YtljjcbmkbmloaaaGreatDoorGTr39
import Derived.Test.YtljjcbmkbmloaaaGreatDoorGTr14
import Derived.Test.YtljjcbmkbmloaaaGreatDoorGTrA
namespace Go.Proofs.YtljjcbmkbmloaaaGreatDoor
set_option maxHeartbeats 3200000
set_option maxRecDepth 100000
set_option linter.unusedVariables false
open Lib (hid)
open Go.ChangeShapes Go.WideShapes Go.ChangeAt Go.RowKit
theorem aiB {w:World}{P D n b:Nat}{ks:bY}{F:Nat→Bool}{ad:bO}{cap:Nat}{x:bI}(h:PL w P D n ks F b)(hB:BS w (.slice ad 512 cap) x):∀ W,Touch [P] w W→BS W (.slice ad 512 cap) x:=by
 intro W hW
 obtain ⟨a,c,he,hy,hn,hc⟩:=hB
 injection he with e1 e2 e3
 subst e1; subst e3
 refine ⟨_,_,by rw [e2],hy,hn, ?_⟩
 rcases hc with h0 | ⟨g,off,rfl,hc⟩
 ·exact .inl h0
 ·refine .inr ⟨g,off,rfl,fun i hi=>?_⟩
  have c0:=hc i hi
  have hg:g ≠ P:=by
   intro e
   subst e
   have c5:=hc 511 (by omega)
   rw [cell_of_row _ _ _ _ _ _ h.row,List.getElem?_toArray,List.getElem?_eq_none (by rw [Gh _ _ _ _ _ h.kl]; omega)] at c5
   cases c5
  rw [← c0]
  unfold World.cell?
  rw [hW.block g (block_lt_of_cell c0) (by simpa using hg)]
def xE (n:aC):bY:=Zr (jX n)
theorem zV {n:aC}(h:checkN n=0):(xE n).length=512:=by unfold xE; rw [Gg]; exact zn h
theorem YW {n:aC}(h:checkN n=0):fP (jX n):=by
 unfold jX
 exact fun z hz=>(List.mem_append.1 hz).elim (XT h z) (EE _ z)
theorem Gi {n:aC}(h:checkN n=0):(xE n).map yv=jX n:=RJ _ (YW h)
theorem acY (P D n b:Nat)(ks:bY)(F:Nat→Bool)(k v p:Value)(nd:aC)(w:World)(hp:PL w P D n ks F b)(hn:NR w k v p nd)(hnb:NB nd)(hb0:b ≠ 0)(hc:checkN nd=0)(hF:∀ a,F a=false) :
 Calls Tryz.prog 59 #[.pointer (some ⟨P,0,none⟩),.agg #[.bool nd.lf,k,v,p]] w fun e w'=>e = .returned (.tuple #[.agg (ag ai).toArray,.int .i64 6])∧Below w.heap.size w w':=by
 have b0:((b:Int) == 0)=false:=by simp; omega
 have V6:=hid rY
 have SZ:=hid (dG ai)
 have SO:=hid (bf ai)
 have hz:=dK
 obtain ⟨hN0,Qr,hsz,hb1⟩:=qR w (.cells #[.bool nd.lf,k,v,p] 118) (.cells (ag ai).toArray 51)
 have HNR:=hid (fun (W:World) (hW:Below w.heap.size w W)=>hn.below hW)
 have xh:=hid (fun (W:World) (hW:Below w.heap.size w W)=>hp.below hW)
 have SN:=hid (dU nd.lf k v p)
 have Pq:=hid (fun (W:World) (hW:Below w.heap.size w W)=>EM k v p nd W (hn.below hW) hnb hc)
 have ag2:=hid (fun (W:World) (hW:Below w.heap.size w W) (x:Value)=>Qq P D n b ks F x W (hp.below hW) hF)
 generalize YT:(ag ai).toArray=PZ at *
 generalize hw1:(w.alloc (.cells #[.bool nd.lf,k,v,p] 118)).alloc (.cells PZ 51)=w1 at *
 have HN0:=hid hN0
 have CY:=hid Qr
 have HB1:=hid hb1
 have hbr:=(xh.out w1 hb1).birth
 clear hN0 Qr hsz hb1 hp hn hnb YT hb0 hc hF
 go_enter Tryz.func59,Tryz.ntmps59
 go_upto_region 1 with fail
 try rw [hw1]
 clear hw1 hz
 go_wp2_with (first
  | (with_reducible refine wpList_load_row (o:=⟨some 18,_,_,_,_,_⟩) rfl 118 _ rfl w.heap.size rfl 118 #[.bool nd.lf,k,v,p] (0,0) _ HN0.out Tryz.underlying118 rfl SN.out ?_))
 refine (Pq.out w1 HB1.out).mono ?_
 rintro e w2 ⟨a2,c2,rfl,hc2,acZ,hb2⟩
 have HB2:=hid (HB1.out.trans (hb2.mono HB1.out.size))
 have xx:=hid ((hb2.block _ (lt_of_block CY.out)).trans CY.out)
 have aiD:=hid acZ
 clear hb2 hbr Pq xh HNR CY acZ
 go_wp2_with fail
 refine (ag2.out w2 HB2.out _).mono ?_
 rintro e w3 ⟨rfl,hb3⟩
 have HB3:=hid (HB2.out.trans (hb3.mono HB2.out.size))
 have kV:=hid ((hb3.block _ (lt_of_block xx.out)).trans xx.out)
 clear hb3 ag2
 go_wp2_with (first
  | (with_reducible refine wpList_store_row (o:=⟨none,.store _ (.tmp 4) _,_,_,_,_⟩) rfl 51 _ _ rfl (w.heap.size+1) PZ rfl rfl 51 PZ kV.out SZ.out rfl SO.out ?_))
 refine bodyPost_ret (v := .tuple #[.agg PZ,.int .i64 6]) (aj Tryz.results59 _ _ (w.heap.size+1) 51 PZ (0,0) _ rfl (setRow_heap _ (w.heap.size+1) _ PZ _ _ kV.out) Tryz.underlying51 rfl SZ.out _ rfl) rfl ⟨rfl,aF HB3.out (by omega) _⟩
theorem ac0 (P D gl bm n b a:Nat)(vw:Value)(V:bY)(ws:bW)(lim:Int)(dn:Bool)(kk m:bY)(F:Nat→Bool)(k v p:Value)(nd:aC)(w:World)(hp:PL w P D n (kk++m) F b)(hd:PD w D gl bm n vw V ws lim dn)(hne:P ∉ oI D gl bm vw)(hK:KT w)(hT:TZ w)(hKP:P ≠ 2)(hk:kk.length=32)(hm:m.length=32)(hn:NR w k v p nd)(hnb:NB nd)
 (hb:b<18446744073709551616) (hb0:b ≠ 0) (hc:checkN nd=0) (hF:F a=true) (hlow:∀ x,x<a→F x=false) (hws:ws.length≤1000000) :
 Calls Tryz.prog 59 #[.pointer (some ⟨P,0,none⟩),.agg #[.bool nd.lf,k,v,p]] w (Jz P D gl bm n b vw V ws lim dn a (kk++m) F (fK kk b a (xE nd)) (eH b a ((fK kk b a (xE nd)).map yv)) w):=by
 have b0:((b:Int) == 0)=false:=by simp; omega
 have hz:=dK
 have SZ:=hid dG
 have SO:=hid bf
 have SL:=hid (fun x y:ay=>show (ag x).toArray.size=(ag y).toArray.size by simp [aO])
 obtain ⟨hN0,Qr,hsz,hb1⟩:=qR w (.cells #[.bool nd.lf,k,v,p] 118) (.cells (ag ai).toArray 51)
 have xh:=hid (fun (W:World) (hW:Below w.heap.size w W)=>hp.below hW)
 have bz:=hid (fun g hg=>hd.lt g hg)
 have zU:=hid hp.lt
 have SN:=hid (dU nd.lf k v p)
 have Pq:=hid (fun (W:World) (hW:Below w.heap.size w W)=>EM k v p nd W (hn.below hW) hnb hc)
 have HPP:=hid (fun (W:World) (hW:Below w.heap.size w W) (ad:bO) (cap:Nat) (hB:BS W (.slice ad 512 cap) (jX nd))=>UL P D gl bm n b a cap vw V ws lim dn kk m F (xE nd) ad W (hp.below hW) (hd.below hW) hne (hK.below hW hK.pos) (hT.below hW) hKP hk hm (zV hc) (by rw [Gi hc]; exact hB) (by rw [Gi hc]; exact aiB (hp.below hW) hB) hb hb0 hF hlow hws)
 generalize fK kk b a (xE nd)=S at *
 generalize eH b a (S.map yv)=PT at *
 generalize YT:(ag ai).toArray=PZ at *
 generalize hw1:(w.alloc (.cells #[.bool nd.lf,k,v,p] 118)).alloc (.cells PZ 51)=w1 at *
 have HN0:=hid hN0
 have CY:=hid Qr
 have HB1:=hid hb1
 have Qo:=hid YT
 have hbr:=(xh.out w1 hb1).birth
 clear hN0 Qr hsz hb1 hp hd hne hK hT hKP hk hm hn hnb hb hb0 hc hF hlow hws YT
 generalize kk++m=KM at *
 go_enter Tryz.func59,Tryz.ntmps59
 go_upto_region 1 with fail
 try rw [hw1]
 clear hw1 hz
 go_wp2_with (first
  | (with_reducible refine wpList_load_row (o:=⟨some 18,_,_,_,_,_⟩) rfl 118 _ rfl w.heap.size rfl 118 #[.bool nd.lf,k,v,p] (0,0) _ HN0.out Tryz.underlying118 rfl SN.out ?_))
 refine (Pq.out w1 HB1.out).mono ?_
 rintro e w2 ⟨a2,c2,rfl,hc2,acZ,hb2⟩
 have HB2:=hid (HB1.out.trans (hb2.mono HB1.out.size))
 have xx:=hid ((hb2.block _ (lt_of_block CY.out)).trans CY.out)
 have aiD:=hid acZ
 clear hb2 hbr Pq xh CY acZ
 go_wp2_with fail
 refine (HPP.out w2 HB2.out _ _ aiD.out).mono ?_
 intro e w3 hpost
 clear HPP aiD
 have Qp:∀ g,w.heap.size≤g→g ∉ P::oI D gl bm vw:=fun g h e=>by
  rcases List.mem_cons.1 e with e | e
  ·have:=zU.out; omega
  ·have:=bz.out g e; omega
 rcases hpost with ⟨hg,rfl,hd3,hp3,ht3⟩ | ⟨hg,rfl,hp3,FV,hd3,ht3,hn3⟩
 ·have kV:=hid ((ht3.block _ (lt_of_block xx.out) (Qp _ (by omega))).trans xx.out)
  have ji:=hid (And.intro hg (And.intro hd3 (And.intro hp3 ht3)))
  clear hg hd3 hp3 ht3 Qp
  rw [Qo.out]
  go_wp2_with (first
   | (with_reducible refine wpList_store_row (o:=⟨none,.store _ (.tmp 4) _,_,_,_,_⟩) rfl 51 _ _ rfl (w.heap.size+1) PZ rfl rfl 51 PZ kV.out (by rw [← Qo.out]; exact SZ.out _) rfl (by rw [← Qo.out]; exact SO.out _) ?_))
  refine bodyPost_ret (v := .tuple #[.agg PZ,.int .i64 7]) (aj Tryz.results59 _ _ (w.heap.size+1) 51 PZ (0,0) _ rfl (setRow_heap _ (w.heap.size+1) _ PZ _ _ kV.out) Tryz.underlying51 rfl (by rw [← Qo.out]; exact SZ.out _) _ rfl) rfl ?_
  have ts:=lK w3 (w.heap.size+1) PZ
  refine .inl ⟨ji.out.1,by rw [Qo.out],ji.out.2.1.touch ts (fun g hg e=>by have:=bz.out g hg; simp at e; omega),ji.out.2.2.1.touch ts (by have:=zU.out; simp; omega), ?_⟩
  exact ((Touch.of_below (l:=P::oI D gl bm vw) HB2.out).trans ji.out.2.2.2).mG (ts.below (Nat.le_trans HB2.out.size ji.out.2.2.2.size) (by simp))
 ·have kV:=hid ((ht3.block _ (lt_of_block xx.out) (Qp _ (by omega))).trans xx.out)
  have ji:=hid (And.intro hg (And.intro hd3 (And.intro hp3 ht3)))
  have Sz:=hid (fun g hg=>(hn3 g hg).imp id (fun h=>Nat.le_trans (Nat.succ_le_of_lt (lt_of_block xx.out)) h))
  obtain ⟨PR,JO⟩:∃ PR,(ag PT).toArray=PR:=⟨_,rfl⟩
  have Af:=hid JO
  rw [JO]
  clear hg hd3 hp3 ht3 Qp hn3 JO
  go_wp2_with (first
   | (with_reducible refine wpList_store_row (o:=⟨none,.store _ (.tmp 4) _,_,_,_,_⟩) rfl 51 _ _ rfl (w.heap.size+1) PR rfl rfl 51 PZ kV.out (by rw [← Af.out]; exact SZ.out _) (by rw [← Af.out,← Qo.out]; exact SL.out _ _) (by rw [← Af.out]; exact SO.out _) ?_))
  refine bodyPost_ret (v := .tuple #[.agg PR,.int .i64 0]) (aj Tryz.results59 _ _ (w.heap.size+1) 51 PR (0,0) _ rfl (setRow_heap _ (w.heap.size+1) _ PR _ _ kV.out) Tryz.underlying51 rfl (by rw [← Af.out]; exact SZ.out _) _ rfl) rfl ?_
  have ts:=lK w3 (w.heap.size+1) PR
  refine .inr ⟨ji.out.1,by rw [Af.out],ji.out.2.2.1.touch ts (by have:=zU.out; simp; omega),FV,ji.out.2.1.touch ts (fun g hg e=>?_), ?_,fun g hg=>(Sz.out g hg).imp id (fun h=>by omega)⟩
  ·simp only [oI,List.mem_cons,Option.mem_toList] at hg
   have hl:=fun g hg=>bz.out g hg
   simp only [oI,List.mem_cons,Option.mem_toList] at hl
   have hlt:g<w.heap.size∨w.heap.size+1<g:=by
    rcases hg with h | h | h | h
    ·exact .inl (hl g (.inl h))
    ·exact .inl (hl g (.inr (.inl h)))
    ·exact .inl (hl g (.inr (.inr (.inl h))))
    ·rcases Sz.out g h with h | h
     ·exact .inl (hl g (.inr (.inr (.inr h))))
     ·exact .inr (by omega)
   simp at e
   omega
  ·exact ((Touch.of_below (l:=P::oI D gl bm vw) HB2.out).trans ji.out.2.2.2).mG (ts.below (Nat.le_trans HB2.out.size ji.out.2.2.2.size) (by simp))
def iY:Array Value:=#[.bool false,.slice none 0 0,.slice none 0 0,.slice none 0 0]
theorem qj (W:World):(Instr.build 118 #[]).run Tryz.prog W = .ok (.agg iY) W:=by kernel_rfl
theorem tZ (W:World):(zeroValue 118).run Tryz.prog W = .ok (.agg iY) W:=by kernel_rfl
theorem UM {q:ay}{n:Nat}(h0:q.ad ≠ 0)(hc:ik q n=0):∃ a:Nat,q.ad=(a:Int)∧2≤a∧a<n∧q.bi ≠ 0:=by
 unfold ik KC at hc
 rw [if_neg h0] at hc
 have hx:(decide (2≤q.ad) && decide (q.ad<(n:Int)) && decide (q.bi ≠ 0))=true:=by
  cases hm:(decide (2≤q.ad) && decide (q.ad<(n:Int)) && decide (q.bi ≠ 0)) with
  | true=>rfl
  | false=>rw [hm] at hc; simp at hc
 simp only [Bool.and_eq_true,decide_eq_true_eq] at hx
 exact ⟨q.ad.toNat,by omega,by omega,by omega,hx.2⟩
theorem ac1 (P D gl bm n b:Nat)(vw:Value)(V:bY)(ws:bW)(lim:Int)(dn:Bool)(ks:bY)(F:Nat→Bool)(q:ay)(w:World)(hp:PL w P D n ks F b)(hd:PD w D gl bm n vw V ws lim dn)(h0:q.ad=0) :
 Calls Tryz.prog 45 #[.pointer (some ⟨P,0,none⟩),.agg (ag q).toArray] w fun e w'=>e = .returned (.tuple #[.agg iY,.int .i64 2])∧Below w.heap.size w w':=by
 have V6:=hid qj
 have hz:=tZ
 obtain ⟨hN0,Qr,hsz,hb1⟩:=qR w (.cells (ag q).toArray 51) (.cells iY 118)
 have SQ:=hid (dS q)
 have SZ:=hid (show (Tryz.prog.info? 118).map (·.size)=some iY.size from dU false _ _ _)
 have SO:=hid (show iY.all (·.oneCell')=true by unfold iY; simp [Value.oneCell'])
 have xh:=hid (fun (W:World) (hW:Below w.heap.size w W)=>hp.below hW)
 have GI:=hid (fun (W:World) (hW:Below w.heap.size w W)=>hd.below hW)
 have hrg:=qx hN0
 have nK:=hid (lg hN0)
 have LY:=hid (fun (W:World)=>eu q W)
 have HSI:=hid (fun (W:World) (hW:Below w.heap.size w W)=>rG D gl bm n vw V ws lim dn W (hd.below hW))
 have VU:=hid (fun (W:World)=>oM q (n:Int) W)
 have hnu:(q.ad == 0)=true:=by simpa using h0
 rw [hnu] at LY
 have CY:=hid Qr
 have HB1:=hid hb1
 have HAD:=hid hrg.1
 generalize hZ:iY=Z at *
 have HZ:=hid hZ
 have Hw:=(xh.out _ hb1).dev
 generalize hQL:ag q=QL at *
 generalize hw1:(w.alloc (.cells QL.toArray 51)).alloc (.cells Z 118)=w1 at *
 have Zt:=hid hQL
 clear hN0 Qr hsz hb1 hp hd hrg hZ hQL h0 hnu
 go_enter Tryz.func45,Tryz.ntmps45
 go_upto_region 3 with fail
 try rw [hw1]
 clear hw1 hz
 have Gj:=jJ Hw
 have Qs:=hid (fun p:dw w1=>HSI.out p.now (HB1.out.trans (p.bel.mono HB1.out.size)))
 refine bQ (by kernel_rfl) (by kernel_rfl) ?_
 repeat (first
  | (with_reducible refine dM (o:=⟨some 12,_,_,_,_,_⟩) (by kernel_rfl) 51 _ rfl w.heap.size 0 rfl QL _ (jB nK.out) Tryz.underlying51 rfl SQ.out ?_
     simp only [Act.put,pZ])
  | (go_big_quiet_step (first
      | (go_at_call 21; exact fC (LY.out _)))))
 refine wpQuiet_nil ?_
 intro _ hw'
 obtain ⟨p3,hw''⟩:=hw'
 subst hw''
 clear Gj
 have HB3:=hid (HB1.out.trans (p3.bel.mono HB1.out.size))
 have kV:=hid ((p3.bel.block _ (lt_of_block CY.out)).trans CY.out)
 go_wp2_with (first
  | (with_reducible refine bF (o:=⟨some 24,_,_,_,_,_⟩) rfl 118 _ rfl #[] (by simp [Act.eval]) (.agg Z) (V6.out _) ?_)
  | (with_reducible refine wpList_store_row (o:=⟨none,.store _ (.tmp 4) _,_,_,_,_⟩) rfl 118 _ _ rfl (w.heap.size+1) Z rfl rfl 118 Z kV.out SZ.out rfl SO.out ?_))
 refine bodyPost_ret (v := .tuple #[.agg Z,.int .i64 2]) (aj Tryz.results45 _ _ (w.heap.size+1) 118 Z (0,0) _ rfl (setRow_heap _ (w.heap.size+1) _ Z _ _ kV.out) Tryz.underlying118 rfl SZ.out _ rfl) rfl ⟨rfl,aF HB3.out (by omega) _⟩
theorem af2 (P D gl bm n b:Nat)(vw:Value)(V:bY)(ws:bW)(lim:Int)(dn:Bool)(ks:bY)(F:Nat→Bool)(q:ay)(w:World)(hp:PL w P D n ks F b)(hd:PD w D gl bm n vw V ws lim dn)(h0:q.ad ≠ 0)(hc:ik q n ≠ 0) :
 Calls Tryz.prog 45 #[.pointer (some ⟨P,0,none⟩),.agg (ag q).toArray] w fun e w'=>e = .returned (.tuple #[.agg iY,.int .i64 2])∧Below w.heap.size w w':=by
 have V6:=hid qj
 have hz:=tZ
 obtain ⟨hN0,Qr,hsz,hb1⟩:=qR w (.cells (ag q).toArray 51) (.cells iY 118)
 have SQ:=hid (dS q)
 have SZ:=hid (show (Tryz.prog.info? 118).map (·.size)=some iY.size from dU false _ _ _)
 have SO:=hid (show iY.all (·.oneCell')=true by unfold iY; simp [Value.oneCell'])
 have xh:=hid (fun (W:World) (hW:Below w.heap.size w W)=>hp.below hW)
 have GI:=hid (fun (W:World) (hW:Below w.heap.size w W)=>hd.below hW)
 have hrg:=qx hN0
 have nK:=hid (lg hN0)
 have LY:=hid (fun (W:World)=>eu q W)
 have HSI:=hid (fun (W:World) (hW:Below w.heap.size w W)=>rG D gl bm n vw V ws lim dn W (hd.below hW))
 have VU:=hid (fun (W:World)=>oM q (n:Int) W)
 have hnu:(q.ad == 0)=false:=by simpa using h0
 rw [hnu] at LY
 have hce:(ik q n != 0)=true:=by simpa using hc
 generalize ik q n=ce at *
 have CY:=hid Qr
 have HB1:=hid hb1
 have HAD:=hid hrg.1
 generalize hZ:iY=Z at *
 have HZ:=hid hZ
 have Hw:=(xh.out _ hb1).dev
 generalize hQL:ag q=QL at *
 generalize hw1:(w.alloc (.cells QL.toArray 51)).alloc (.cells Z 118)=w1 at *
 have Zt:=hid hQL
 clear hN0 Qr hsz hb1 hp hd hrg hZ hQL h0 hc hnu
 go_enter Tryz.func45,Tryz.ntmps45
 go_upto_region 3 with fail
 try rw [hw1]
 clear hw1 hz
 have Gj:=jJ Hw
 have Qs:=hid (fun p:dw w1=>HSI.out p.now (HB1.out.trans (p.bel.mono HB1.out.size)))
 refine bQ (by kernel_rfl) (by kernel_rfl) ?_
 repeat (first
  | (with_reducible refine dM (o:=⟨some 12,_,_,_,_,_⟩) (by kernel_rfl) 51 _ rfl w.heap.size 0 rfl QL _ (jB nK.out) Tryz.underlying51 rfl SQ.out ?_
     simp only [Act.put,pZ])
  | (with_reducible refine dM (o:=⟨some 15,_,_,_,_,_⟩) (by kernel_rfl) 51 _ rfl w.heap.size 0 rfl QL _ (jB nK.out) Tryz.underlying51 rfl SQ.out ?_
     simp only [Act.put,pZ])
  | (go_big_quiet_step (first
      | (go_at_call 21; exact fC (LY.out _))
      | (go_at_call 43; exact eY (Qs.out _))
      | (go_at_call 62; exact fC (VU.out _)))))
 refine wpQuiet_nil ?_
 intro _ hw'
 obtain ⟨p3,hw''⟩:=hw'
 subst hw''
 clear Gj
 have HB3:=hid (HB1.out.trans (p3.bel.mono HB1.out.size))
 have kV:=hid ((p3.bel.block _ (lt_of_block CY.out)).trans CY.out)
 go_wp2_with (first
  | (with_reducible refine bF (o:=⟨some 24,_,_,_,_,_⟩) rfl 118 _ rfl #[] (by simp [Act.eval]) (.agg Z) (V6.out _) ?_)
  | (with_reducible refine wpList_store_row (o:=⟨none,.store _ (.tmp 4) _,_,_,_,_⟩) rfl 118 _ _ rfl (w.heap.size+1) Z rfl rfl 118 Z kV.out SZ.out rfl SO.out ?_))
 refine bodyPost_ret (v := .tuple #[.agg Z,.int .i64 2]) (aj Tryz.results45 _ _ (w.heap.size+1) 118 Z (0,0) _ rfl (setRow_heap _ (w.heap.size+1) _ Z _ _ kV.out) Tryz.underlying118 rfl SZ.out _ rfl) rfl ⟨rfl,aF HB3.out (by omega) _⟩
theorem ac3 (P D gl bm n b:Nat)(vw:Value)(V:bY)(ws:bW)(lim:Int)(dn:Bool)(ks:bY)(F:Nat→Bool)(q:ay)(w:World)(hp:PL w P D n ks F b)(hd:PD w D gl bm n vw V ws lim dn)(h0:q.ad ≠ 0)(hc:ik q n=0)(hdn:dn=true) :
 Calls Tryz.prog 45 #[.pointer (some ⟨P,0,none⟩),.agg (ag q).toArray] w fun e w'=>e = .returned (.tuple #[.agg iY,.int .i64 7])∧Below w.heap.size w w':=by
 have V6:=hid qj
 have hz:=tZ
 obtain ⟨hN0,Qr,hsz,hb1⟩:=qR w (.cells (ag q).toArray 51) (.cells iY 118)
 have SQ:=hid (dS q)
 have SZ:=hid (show (Tryz.prog.info? 118).map (·.size)=some iY.size from dU false _ _ _)
 have SO:=hid (show iY.all (·.oneCell')=true by unfold iY; simp [Value.oneCell'])
 have xh:=hid (fun (W:World) (hW:Below w.heap.size w W)=>hp.below hW)
 have GI:=hid (fun (W:World) (hW:Below w.heap.size w W)=>hd.below hW)
 have hrg:=qx hN0
 have nK:=hid (lg hN0)
 have LY:=hid (fun (W:World)=>eu q W)
 have HSI:=hid (fun (W:World) (hW:Below w.heap.size w W)=>rG D gl bm n vw V ws lim dn W (hd.below hW))
 have VU:=hid (fun (W:World)=>oM q (n:Int) W)
 obtain ⟨a,ha,ha2,G7,_⟩:=UM h0 hc
 have hnu:(q.ad == 0)=false:=by simpa using h0
 rw [hnu] at LY
 rw [hc] at VU
 have uz:=hid (show a<4294967296 by have:=q.a0; omega)
 have HA:=hid ha
 have ui:=hid (fun (W:World) (hW:Below w.heap.size w W)=>Ut D gl bm n a vw V ws lim W (by have h:=hd.below hW; rw [hdn] at h; exact h) G7)
 have CY:=hid Qr
 have HB1:=hid hb1
 have HAD:=hid hrg.1
 generalize hZ:iY=Z at *
 have HZ:=hid hZ
 have Hw:=(xh.out _ hb1).dev
 generalize hQL:ag q=QL at *
 generalize hw1:(w.alloc (.cells QL.toArray 51)).alloc (.cells Z 118)=w1 at *
 have Zt:=hid hQL
 clear hN0 Qr hsz hb1 hp hd hrg hZ hQL h0 hc hnu ha G7 ha2 hdn
 go_enter Tryz.func45,Tryz.ntmps45
 go_upto_region 3 with fail
 try rw [hw1]
 clear hw1 hz
 have Gj:=jJ Hw
 have Qs:=hid (fun p:dw w1=>HSI.out p.now (HB1.out.trans (p.bel.mono HB1.out.size)))
 refine bQ (by kernel_rfl) (by kernel_rfl) ?_
 repeat (first
  | (with_reducible refine dM (o:=⟨some 12,_,_,_,_,_⟩) (by kernel_rfl) 51 _ rfl w.heap.size 0 rfl QL _ (jB nK.out) Tryz.underlying51 rfl SQ.out ?_
     simp only [Act.put,pZ])
  | (with_reducible refine dM (o:=⟨some 15,_,_,_,_,_⟩) (by kernel_rfl) 51 _ rfl w.heap.size 0 rfl QL _ (jB nK.out) Tryz.underlying51 rfl SQ.out ?_
     simp only [Act.put,pZ])
  | (go_big_quiet_step (first
      | (go_at_call 21; exact fC (LY.out _))
      | (go_at_call 43; exact eY (Qs.out _))
      | (go_at_call 62; exact fC (VU.out _)))))
 refine wpQuiet_nil ?_
 intro _ hw'
 obtain ⟨p3,hw''⟩:=hw'
 subst hw''
 clear Gj
 have HB3:=hid (HB1.out.trans (p3.bel.mono HB1.out.size))
 have kV:=hid ((p3.bel.block _ (lt_of_block CY.out)).trans CY.out)
 have RI:=hid p3.bel
 obtain ⟨w3,hw3⟩:∃ z,z=p3.now:=⟨_,rfl⟩
 rw [← hw3] at HB3 kV RI ⊢
 clear hw3 p3 LY HSI VU Qs
 go_upto_region 5 with fail
 have had:=HAD.out
 have lQ:=hid (fun (W:World) (hW:Below w3.heap.size w3 W)=>show W.cell? ⟨P,0,none⟩=some (.pointer (some ⟨D,0,none⟩))∧W.cell? ⟨w.heap.size,0,none⟩=some (.int .u32 (a:Int)) from ⟨(xh.out W (HB3.out.trans (hW.mono HB3.out.size))).dev,by rw [← HA.out]; exact ((RI.out.trans (hW.mono RI.out.size)).cell (p:=⟨w.heap.size,0,none⟩) (block_lt_of_cell HAD.out)).trans HAD.out⟩)
 have Ha:=hid (HB3.out.trans (Below.refl _ _).drew)
 clear had
 try simp only [Act.put]
 refine wp_region_noPanic ?_
 refine wp_region_held_drew (S:=fun W=>W.cell? ⟨P,0,none⟩=some (.pointer (some ⟨D,0,none⟩))∧W.cell? ⟨w.heap.size,0,none⟩=some (.int .u32 (a:Int))) (by kernel_rfl) (lQ.out _ (Below.refl _ _).drew) (fun hHeld=>?_)
 refine tR 0 26 (h:=tR 1 27 (h:=?_))
 refine tK 2 28 ?_ rfl (Or.inl ⟨by rfl, ?_⟩) ?_
 rotate_left 1
 ·(intro w' hSw; clear hSw; go_simp; try with_reducible rfl)
 try simp only [Act.put,pZ]
 refine tK 3 29 ?_ rfl (Or.inl ⟨by rfl, ?_⟩) ?_
 rotate_left 1
 ·(intro w' hSw; have hc:=hSw.1; clear hSw; go_simp; try with_reducible rfl)
 try simp only [Act.put,pZ]
 refine tR 4 30 (h:=?_)
 refine tK 5 31 ?_ rfl (Or.inl ⟨by rfl, ?_⟩) ?_
 rotate_left 1
 ·(intro w' hSw; have hc:=hSw.2; clear hSw; go_simp; try with_reducible rfl)
 try simp only [Act.put,pZ]
 clear hHeld
 refine rD 6 rfl fun K hK=>?_
 go_simp
 go_at_call 63
 refine (ui.out _ Ha.out).mono ?_
 rintro e w4 ⟨rfl,rfl⟩
 go_wp2_with fail
 refine hK.out _ _ (lQ.out _ (Below.refl _ _).drew) (fun hHeld=>?_)
 clear hK K
 try simp only [Act.put,pZ]
 refine tR 7 25 (h:=tR 8 33 (h:=tR 9 34 (h:=tR 10 6 (h:=tR 11 7 (h:=?_)))))
 clear hHeld
 refine wpAnyH_done (by decide +kernel) ?_ _
 refine NoPanic.normal ?_
 have mQ:=hid (show w3.drew.heap[w.heap.size+1]? = some (.cells Z 118 (0,0)) from kV.out)
 clear lQ kV HB3 Hw
 go_wp2_with (first
  | (with_reducible refine bF (o:=⟨some 37,_,_,_,_,_⟩) rfl 118 _ rfl #[] (by simp [Act.eval]) (.agg Z) (V6.out _) ?_)
  | (with_reducible refine wpList_store_row (o:=⟨none,.store _ (.tmp 4) _,_,_,_,_⟩) rfl 118 _ _ rfl (w.heap.size+1) Z rfl rfl 118 Z mQ.out SZ.out rfl SO.out ?_))
 refine bodyPost_ret (v := .tuple #[.agg Z,.int .i64 7]) (aj Tryz.results45 _ _ (w.heap.size+1) 118 Z (0,0) _ rfl (setRow_heap _ (w.heap.size+1) _ Z _ _ mQ.out) Tryz.underlying118 rfl SZ.out _ rfl) rfl ⟨rfl,aF Ha.out (by omega) _⟩
def upR (k:bY)(q:ay)(L:bY):aC×Int:=if (kQ k q L).2 ≠ 0 then (iW,(kQ k q L).2) else yl ((kQ k q L).1.map yv)
theorem aiF {w:World}{k v p:Value}{n:aC}(h:NR w k v p n)(b:Bool):(#[.bool b,k,v,p]:Array Value).all (·.oneCell')=true:=by
 obtain ⟨a1,c1,e1,_⟩:=h.ks
 obtain ⟨a2,c2,e2,_⟩:=h.vs
 obtain ⟨a3,c3,e3,_⟩:=h.ps
 subst e1; subst e2; subst e3
 simp [Value.oneCell']
theorem aiG (P D gl bm n b:Nat)(vw:Value)(V:bY)(ws:bW)(lim:Int)(dn:Bool)(ks:bY)(F:Nat→Bool)(q:ay)(w:World)(hp:PL w P D n ks F b)(hd:PD w D gl bm n vw V ws lim dn)(kk m:bY)(hks:ks=kk++m)(hk:kk.length=32)(hm:m.length=32)(hK:KT w)(a:Nat)(h0:q.ad ≠ 0)(hc:ik q n=0)(hdn:dn=false)(ha:q.ad=(a:Int))(L:bY)(hL:zO V ws a=L) :
 Calls Tryz.prog 45 #[.pointer (some ⟨P,0,none⟩),.agg (ag q).toArray] w fun e w'=>∃ k v p',e = .returned (.tuple #[.agg #[.bool (upR kk q L).1.lf,k,v,p'],.int .i64 (upR kk q L).2])∧NR w' k v p' (upR kk q L).1∧Below w.heap.size w w':=by
 have V6:=hid qj
 have hz:=tZ
 obtain ⟨hN0,Qr,hsz,hb1⟩:=qR w (.cells (ag q).toArray 51) (.cells iY 118)
 have SQ:=hid (dS q)
 have SZ:=hid (show (Tryz.prog.info? 118).map (·.size)=some iY.size from dU false _ _ _)
 have SO:=hid (show iY.all (·.oneCell')=true by unfold iY; simp [Value.oneCell'])
 have xh:=hid (fun (W:World) (hW:Below w.heap.size w W)=>hp.below hW)
 have GI:=hid (fun (W:World) (hW:Below w.heap.size w W)=>hd.below hW)
 have hrg:=qx hN0
 have nK:=hid (lg hN0)
 have LY:=hid (fun (W:World)=>eu q W)
 have HSI:=hid (fun (W:World) (hW:Below w.heap.size w W)=>rG D gl bm n vw V ws lim dn W (hd.below hW))
 have VU:=hid (fun (W:World)=>oM q (n:Int) W)
 have hnu:(q.ad == 0)=false:=by simpa using h0
 rw [hnu] at LY
 rw [hc] at VU
 have G7:a<n:=by obtain ⟨a',ha',_,h,_⟩:=UM h0 hc; omega
 have HA:=hid ha
 have ui:=hid (fun (W:World) (hW:Below w.heap.size w W)=>acC D gl bm n a vw V ws lim W (by have h:=hd.below hW; rw [hdn] at h; exact h) G7)
 rw [hL] at ui
 have Jn:=hid (fun (W:World) (hW:Below w.heap.size w W) (X:Nat) (hX:aW W X 140 L) (hl:L.length=512)=>Ql kk m q L (some ⟨X,0,none⟩) 512 512 W (hK.below hW hK.pos) hk hm (Bts.arr hX hl (by decide)))
 have HOL:=hid (show (kQ kk q L).1.length≤512∨(kQ kk q L).2 ≠ 0 from by
  unfold kQ
  by_cases h5:L.length ≠ 512
  ·rw [if_pos h5]; exact .inr (by simp)
  ·rw [if_neg h5]
   by_cases h6:CJ q (L.map yv)=true
   ·rw [if_pos h6]; exact .inl (by rw [iV _ _ _ _ (by omega)]; exact Nat.le_refl _)
   ·rw [if_neg h6]; exact .inr (by simp))
 have HUR:=hid (show upR kk q L=if (kQ kk q L).2 ≠ 0 then (iW,(kQ kk q L).2) else yl ((kQ kk q L).1.map yv) from rfl)
 have IK:=hid (CO (kk++m) (by rw [← hks]; exact hp.kl))
 have HKS:=hid hks
 have CY:=hid Qr
 have HB1:=hid hb1
 have HAD:=hid hrg.1
 generalize upR kk q L=ur at *
 generalize (kQ kk q L).1=ol at *
 generalize (kQ kk q L).2=oe at *
 generalize hZ:iY=Z at *
 have HZ:=hid hZ
 have Hw:=(xh.out _ hb1).dev
 generalize hQL:ag q=QL at *
 generalize hw1:(w.alloc (.cells QL.toArray 51)).alloc (.cells Z 118)=w1 at *
 have Zt:=hid hQL
 clear hN0 Qr hsz hb1 hp hd hrg hZ hQL h0 hc hnu G7 ha hdn hL hks hk hm hK
 go_enter Tryz.func45,Tryz.ntmps45
 go_upto_region 3 with fail
 try rw [hw1]
 clear hw1 hz
 have Gj:=jJ Hw
 have Qs:=hid (fun p:dw w1=>HSI.out p.now (HB1.out.trans (p.bel.mono HB1.out.size)))
 refine bQ (by kernel_rfl) (by kernel_rfl) ?_
 repeat (first
  | (with_reducible refine dM (o:=⟨some 12,_,_,_,_,_⟩) (by kernel_rfl) 51 _ rfl w.heap.size 0 rfl QL _ (jB nK.out) Tryz.underlying51 rfl SQ.out ?_
     simp only [Act.put,pZ])
  | (with_reducible refine dM (o:=⟨some 15,_,_,_,_,_⟩) (by kernel_rfl) 51 _ rfl w.heap.size 0 rfl QL _ (jB nK.out) Tryz.underlying51 rfl SQ.out ?_
     simp only [Act.put,pZ])
  | (go_big_quiet_step (first
      | (go_at_call 21; exact fC (LY.out _))
      | (go_at_call 43; exact eY (Qs.out _))
      | (go_at_call 62; exact fC (VU.out _)))))
 refine wpQuiet_nil ?_
 intro _ hw'
 obtain ⟨p3,hw''⟩:=hw'
 subst hw''
 clear Gj
 have HB3:=hid (HB1.out.trans (p3.bel.mono HB1.out.size))
 have kV:=hid ((p3.bel.block _ (lt_of_block CY.out)).trans CY.out)
 have RI:=hid p3.bel
 obtain ⟨w3,hw3⟩:∃ z,z=p3.now:=⟨_,rfl⟩
 rw [← hw3] at HB3 kV RI ⊢
 clear hw3 p3 LY HSI VU Qs
 go_upto_region 5 with fail
 have had:=HAD.out
 have lQ:=hid (fun (W:World) (hW:Below w3.heap.size w3 W)=>show W.cell? ⟨P,0,none⟩=some (.pointer (some ⟨D,0,none⟩))∧W.cell? ⟨w.heap.size,0,none⟩=some (.int .u32 (a:Int)) from ⟨(xh.out W (HB3.out.trans (hW.mono HB3.out.size))).dev,by rw [← HA.out]; exact ((RI.out.trans (hW.mono RI.out.size)).cell (p:=⟨w.heap.size,0,none⟩) (block_lt_of_cell HAD.out)).trans HAD.out⟩)
 have Ha:=hid (HB3.out.trans (Below.refl _ _).drew)
 clear had
 try simp only [Act.put]
 refine wp_region_noPanic ?_
 refine wp_region_held_drew (S:=fun W=>W.cell? ⟨P,0,none⟩=some (.pointer (some ⟨D,0,none⟩))∧W.cell? ⟨w.heap.size,0,none⟩=some (.int .u32 (a:Int))) (by kernel_rfl) (lQ.out _ (Below.refl _ _).drew) (fun hHeld=>?_)
 refine tR 0 26 (h:=tR 1 27 (h:=?_))
 refine tK 2 28 ?_ rfl (Or.inl ⟨by rfl, ?_⟩) ?_
 rotate_left 1
 ·(intro w' hSw; clear hSw; go_simp; try with_reducible rfl)
 try simp only [Act.put,pZ]
 refine tK 3 29 ?_ rfl (Or.inl ⟨by rfl, ?_⟩) ?_
 rotate_left 1
 ·(intro w' hSw; have hc:=hSw.1; clear hSw; go_simp; try with_reducible rfl)
 try simp only [Act.put,pZ]
 refine tR 4 30 (h:=?_)
 refine tK 5 31 ?_ rfl (Or.inl ⟨by rfl, ?_⟩) ?_
 rotate_left 1
 ·(intro w' hSw; have hc:=hSw.2; clear hSw; go_simp; try with_reducible rfl)
 try simp only [Act.put,pZ]
 clear hHeld
 refine rD 6 rfl fun K hK=>?_
 go_simp
 go_at_call 63
 refine (ui.out _ Ha.out).mono ?_
 rintro e w4 ⟨rfl,hA4,hL4,hb4⟩
 have HB4:=hid (Ha.out.trans (hb4.mono Ha.out.size))
 have yF:=hid (((Below.refl w3.heap.size w3).drew).trans (hb4.mono (Nat.le_refl _)))
 have Bz:=hid hA4
 have HL4:=hid hL4
 clear hA4 hL4 hb4 ui
 go_wp2_with fail
 refine hK.out _ _ (lQ.out _ yF.out) (fun hHeld=>?_)
 clear hK K
 try simp only [Act.put,pZ]
 refine tR 7 25 (h:=tR 8 33 (h:=tR 9 34 (h:=tR 10 6 (h:=tR 11 7 (h:=?_)))))
 clear hHeld
 refine wpAnyH_done (by decide +kernel) ?_ _
 refine NoPanic.normal ?_
 have mQ:=hid ((yF.out.block _ (lt_of_block kV.out)).trans kV.out)
 have HR4:=hid (fun (W:World) (hW:Below w4.heap.size w4 W)=>show W.rangeAt P 1 (aG (kk++m)).toList∧W.rangeAt w.heap.size 0 QL from
  ⟨by rw [← HKS.out]; exact (xh.out W (HB4.out.trans (hW.mono HB4.out.size))).keys,fun j x hj=>(((RI.out.trans (yF.out.mono RI.out.size)).trans (hW.mono (Nat.le_trans RI.out.size yF.out.size))).cell (block_lt_of_cell (nK.out j x hj))).trans (nK.out j x hj)⟩)
 have af4:=hid (HB4.out.trans (Below.refl _ _).drew)
 have amy:=hid (show aW w4.drew w3.heap.size 140 L from Bz.out)
 clear lQ kV HB3 Hw HAD HA
 go_upto_region 8 with fail
 try simp only [Act.put]
 refine wp_region_noPanic ?_
 refine wp_region_held_drew (S:=fun W=>W.rangeAt P 1 (aG (kk++m)).toList∧W.rangeAt w.heap.size 0 QL) (by kernel_rfl) (HR4.out _ (Below.refl _ _).drew) (fun hHeld=>?_)
 refine tR 0 40 (h:=tR 1 41 (h:=?_))
 refine tK 2 42 ?_ rfl (Or.inl ⟨by rfl, ?_⟩) ?_
 rotate_left 1
 ·(intro w' hSw; clear hSw; go_simp; try with_reducible rfl)
 try simp only [Act.put,pZ]
 refine tK 3 43 _ rfl (yieldsIf_load_mid (by rfl) _ _ rfl P 1 rfl (aG (kk++m)).toList _ (fun w' h=>h.1) Tryz.underlying60 rfl IK.out) ?_
 try simp only [Act.put,pZ,Array.toArray_toList]
 refine tK 4 44 _ rfl (yieldsIf_load_mid (by rfl) _ _ rfl w.heap.size 0 rfl QL _ (fun w' h=>h.2) Tryz.underlying51 rfl SQ.out) ?_
 try simp only [Act.put,pZ]
 refine tR 5 45 (h:=?_)
 clear hHeld
 refine rD 6 rfl fun K hK=>?_
 go_simp
 go_at_call 64
 refine (Jn.out _ af4.out _ amy.out HL4.out).mono ?_
 rintro e w5 ⟨x,y,z,rfl,hbt,hb5⟩
 have fQ:=hid (af4.out.trans (hb5.mono af4.out.size))
 have lQ:=hid (((Below.refl w4.heap.size w4).drew).trans (hb5.mono (Nat.le_refl _)))
 have HBT:=hid hbt.1
 clear hbt hb5 Jn
 go_wp2_with fail
 refine hK.out _ _ (HR4.out _ lQ.out) (fun hHeld=>?_)
 clear hK K
 try simp only [Act.put,pZ]
 refine tR 7 39 (h:=tR 8 47 (h:=tR 9 48 (h:=tR 10 8 (h:=tR 11 7 (h:=?_)))))
 clear hHeld
 refine wpAnyH_done (by decide +kernel) ?_ _
 refine NoPanic.normal ?_
 have qJ:=hid ((lQ.out.block _ (lt_of_block mQ.out)).trans mQ.out)
 clear HR4 mQ lQ yF af4 amy Bz Ha HL4
 by_cases hoe:oe=0
 ·subst hoe
  have hol:ol.length≤512:=by rcases HOL.out with h | h; exact h; exact absurd rfl h
  have hur:ur=yl (ol.map yv):=by rw [HUR.out,if_neg (by simp)]
  have Zz:=hid (abn (.slice x y z) (ol.map yv) w5 HBT.out (by rw [List.length_map]; omega))
  rw [← hur] at Zz
  clear hol hur HOL HUR HBT
  go_wp2_with fail
  refine Zz.out.mono ?_
  rintro e w6 ⟨k6,v6,p6,rfl,Hy,hb6⟩
  have kX:=hid (fQ.out.trans (hb6.mono fQ.out.size))
  have jL:=hid ((hb6.block _ (lt_of_block qJ.out)).trans qJ.out)
  have HN6:=hid Hy
  have SR:=hid (dU ur.1.lf k6 v6 p6)
  have SRZ:=hid (show Z.size=(#[.bool ur.1.lf,k6,v6,p6]:Array Value).size by rw [← HZ.out]; rfl)
  have SRO:=hid (show (#[.bool ur.1.lf,k6,v6,p6]:Array Value).all (·.oneCell')=true from aiF Hy _)
  clear hb6 Hy Zz fQ qJ
  go_wp2_with (first
   | (with_reducible refine wpList_store_row (o:=⟨none,.store _ (.tmp 4) _,_,_,_,_⟩) rfl 118 _ _ rfl (w.heap.size+1) #[.bool ur.1.lf,k6,v6,p6] rfl rfl 118 Z jL.out SR.out SRZ.out SRO.out ?_))
  have hz6:w6.heap[w.heap.size+1]? = some (.cells #[.bool false,.slice none 0 0,.slice none 0 0,.slice none 0 0] 118 (0,0)):=by rw [jL.out,← HZ.out]; rfl
  obtain ⟨zk,zp⟩:=Tf hz6
  exact bodyPost_ret (v := .tuple #[.agg #[.bool ur.1.lf,k6,v6,p6],.int .i64 ur.2]) (aj Tryz.results45 _ _ (w.heap.size+1) 118 #[.bool ur.1.lf,k6,v6,p6] (0,0) _ rfl (setRow_heap _ (w.heap.size+1) _ _ _ _ jL.out) Tryz.underlying118 rfl SR.out _ rfl) rfl ⟨k6,v6,p6,rfl,abm HN6.out hz6 zk zp,aF kX.out (by omega) _⟩
 ·have atB:(oe != 0)=true:=by simpa using hoe
  have hur:ur=(iW,oe):=by rw [HUR.out,if_pos hoe]
  have HUE:=hid hur
  clear hoe hur HOL HUR HBT
  go_wp2_with (first
   | (with_reducible refine bF (o:=⟨some 51,_,_,_,_,_⟩) rfl 118 _ rfl #[] (by simp [Act.eval]) (.agg Z) (V6.out _) ?_)
   | (with_reducible refine wpList_store_row (o:=⟨none,.store _ (.tmp 4) _,_,_,_,_⟩) rfl 118 _ _ rfl (w.heap.size+1) Z rfl rfl 118 Z qJ.out SZ.out rfl SO.out ?_))
  refine bodyPost_ret (v := .tuple #[.agg Z,.int .i64 oe]) (aj Tryz.results45 _ _ (w.heap.size+1) 118 Z (0,0) _ rfl (setRow_heap _ (w.heap.size+1) _ Z _ _ qJ.out) Tryz.underlying118 rfl SZ.out _ rfl) rfl ⟨.slice none 0 0,.slice none 0 0,.slice none 0 0, ?_, ?_,aF fQ.out (by omega) _⟩
  ·rw [HUE.out,← HZ.out]; rfl
  ·rw [HUE.out]; exact pX _
end Go.Proofs.YtljjcbmkbmloaaaGreatDoor
