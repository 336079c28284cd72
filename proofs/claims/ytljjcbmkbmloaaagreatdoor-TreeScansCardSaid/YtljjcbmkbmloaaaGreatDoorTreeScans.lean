/-
  'TreeScans' returns true at every input, and each argument reads behind the call as it read before. Conditions: the package-level variable that the row lists starts as the program's text lays it (the card ties that).
-/
import Derived.Test.YtljjcbmkbmloaaaGreatDoorGTr10
import Derived.Test.YtljjcbmkbmloaaaGreatDoorCards
import Derived.Test.YtljjcbmkbmloaaaGreatDoorTie
import Derived.Test.YtljjcbmkbmloaaaGreatDoorGTr48
namespace Go.Proofs.YtljjcbmkbmloaaaGreatDoor.treeScans
open Go.ChangeShapes Go.WideShapes Go.ChangeAt Go.RowKit
set_option linter.unusedVariables false


set_option maxRecDepth 100000 in
set_option maxHeartbeats 6400000 in
theorem walk (w:World)(x0:List kC)(a0:Option Addr)(len0 cap0:Nat)(qK uw Ie:ByteArray)(sl0:SlR CQ 4 w x0 a0 len0 cap0)(z1:qK.size≤140737488351232)(z2:uw.size≤140737488351232)(z3:Ie.size≤140737488351232)(hK:KT w)(hT:TZ w) :
 Calls Tryz.prog 6 #[.agg #[.slice a0 len0 cap0,.string qK,.string uw,.string Ie]] w fun e w'=>e = .returned (.bool true)∧Below w.heap.size w w':=by
 have QN:=Lib.hid (And.intro hK hT)
 obtain ⟨hat,hok⟩:=ady sl0
 have HLEN:=Lib.hid sl0.len
 have HCAP:=Lib.hid (And.intro sl0.cap sl0.big)
 have HAT:=Lib.hid hat
 have pG:=Lib.hid hok
 clear sl0 hat hok
 have zI1:(qK.size:Int)≤140737488351232:=by omega
 have zI2:(uw.size:Int)≤140737488351232:=by omega
 have zI3:(Ie.size:Int)≤140737488351232:=by omega
 have hb0:=aJ w (.cells #[.slice a0 len0 cap0,.string qK,.string uw,.string Ie] 73)
 have hn0:=ah w (.cells #[.slice a0 len0 cap0,.string qK,.string uw,.string Ie] 73)
 have HA:=Lib.hid (vT (w.alloc (.cells #[.slice a0 len0 cap0,.string qK,.string uw,.string Ie] 73)) (hK.below hb0 hK.pos) (hT.below hb0))
 have HB0:=Lib.hid hb0
 have HN0:=Lib.hid hn0
 clear hb0 hn0 hK hT z1 z2 z3
 go_enter Tryz.func6,Tryz.ntmps6
 go_wp2_with fail
 refine HA.out.mono ?_
 rintro e w1 ⟨rfl,hb1⟩
 have HB1:=Lib.hid (aK HB0.out hb1)
 have hn1:=(hb1.block _ (lt_of_block HN0.out)).trans HN0.out
 have q0:∀ p:dw w1,p.now.cell? ⟨w.heap.size,0,none⟩=some (.slice a0 len0 cap0):=jJ (cell_of_row w1 w.heap.size 0 _ _ _ hn1)
 have q1:∀ p:dw w1,p.now.cell? ⟨w.heap.size,1,none⟩=some (.string qK):=jJ (cell_of_row w1 w.heap.size 1 _ _ _ hn1)
 have q2:∀ p:dw w1,p.now.cell? ⟨w.heap.size,2,none⟩=some (.string uw):=jJ (cell_of_row w1 w.heap.size 2 _ _ _ hn1)
 have q3:∀ p:dw w1,p.now.cell? ⟨w.heap.size,3,none⟩=some (.string Ie):=jJ (cell_of_row w1 w.heap.size 3 _ _ _ hn1)
 clear hb1 hn1 HA HB0 HN0
 go_upto_region 3 with fail
 refine bQ (by kernel_rfl) (by kernel_rfl) ?_
 repeat (go_big_quiet_step (fail))
 refine wpQuiet_nil ?_
 intro _ hw'
 obtain ⟨pp,hw''⟩:=hw'
 subst hw''
 have HB2:=Lib.hid (aK HB1.out pp.bel)
 generalize pp.now=w2 at *
 clear pp q0 q1 q2 q3 HB1
 have QT:=Lib.hid (MF a0 cap0 x0 w2 (HAT.out.below HB2.out) pG.out (by rw [HLEN.out]; exact Nat.le_trans HCAP.out.1 HCAP.out.2))
 rw [HLEN.out] at QT
 go_wp2_with fail
 refine QT.out.mono ?_
 rintro e w3 ⟨hg,hb3⟩
 have HB3:=Lib.hid (aK HB2.out hb3)
 clear hb3 QT HB2
 rcases hg with rfl | ⟨rfl,hg1,hg2⟩
 ·go_wp2_with fail
  go_ret
  exact ⟨rfl,HB3.out⟩
 ·have VI:=Lib.hid (And.intro hg1 hg2)
  clear hg1 hg2
  by_cases hbig:500<uw.size+Ie.size+qK.size
  ·have bI:(500:Int)<(uw.size:Int)+(Ie.size:Int)+(qK.size:Int):=by omega
   clear hbig
   go_wp2_with fail
   go_ret
   exact ⟨rfl,HB3.out⟩
  ·have bI:¬ ((500:Int)<(uw.size:Int)+(Ie.size:Int)+(qK.size:Int)):=by omega
   have jM:=Lib.hid (show qK.size≤500∧uw.size≤500∧Ie.size≤500 by omega)
   clear hbig
   have QU:=Lib.hid (DN w w3 1024 QN.out.1 QN.out.2 HB3.out (by decide) (by decide))
   go_wp2_with fail
   refine QU.out.mono ?_
   rintro e w4 ⟨t,P,D,gl,M4,rfl,hq4,MP,_⟩
   have mQ:=Lib.hid hq4
   have HT4:=Lib.hid MP
   clear hq4 MP QU bI zI1 zI2 zI3
   have HGW:=Lib.hid (Wj w w4 P D gl 1024 _ _ _ [] M4 t a0 cap0 x0 mQ.out HT4.out HAT.out VI.out.1 VI.out.2 pG.out)
   rw [HLEN.out] at HGW
   go_wp2_with fail
   refine HGW.out.mono ?_
   rintro e w5 ⟨M5,t5,R5,a5,c5,hs5,hp5,rfl,hl5⟩
   have lQ:=Lib.hid hs5
   have GM:=Lib.hid hp5
   have rP:=Lib.hid (show R5.cn.length≤150 by have:=VI.out.1; have:=HLEN.out; omega)
   obtain ⟨m5,pJ⟩:∃ z,R5.cn.length=z:=⟨_,rfl⟩
   have xA:=Lib.hid pJ
   rw [pJ]
   clear hs5 hp5 hl5 pJ HGW
   go_upto_region 10 with fail
   generalize hw6:World.alloc w5 (.cells #[.pointer (some ⟨t5,0,none⟩),.slice a5 m5 c5] 34)=w6
   have hb6:=aJ w5 (.cells #[.pointer (some ⟨t5,0,none⟩),.slice a5 m5 c5] 34)
   have Hy:=ah w5 (.cells #[.pointer (some ⟨t5,0,none⟩),.slice a5 m5 c5] 34)
   rw [hw6] at hb6 Hy
   have jL:=Lib.hid (lQ.out.tq.below hb6)
   have MQ:=Lib.hid (GM.out.bU lQ.out.tq jL.out (fun _ e=>e) hb6)
   have HN6:=Lib.hid Hy
   clear hw6 hb6 Hy mQ HT4 lQ GM
   generalize w5.heap.size=Zq at *
   have u60:=cell_of_row w6 Zq 0 _ _ _ HN6.out
   have xy:=Lib.hid (lM aY aY jL.out MQ.out.tm (by have:=rP.out; omega))
   go_wp2_with fail
   refine xy.out.mono ?_
   rintro e w7 ⟨vA,rfl,hvA,hb⟩
   have uD:=Lib.hid (jL.out.below hb)
   have Zy:=Lib.hid (MQ.out.bU jL.out uD.out (fun _ e=>e) hb)
   have HN7:=Lib.hid ((hb.block _ (lt_of_block HN6.out)).trans HN6.out)
   have ai9:=Lib.hid hvA
   have apM:=Lib.hid hb
   clear hvA hb xy u60 MQ HN6
   have HXL:=Lib.hid (lt_of_block HN7.out)
   have u70:=cell_of_row w7 Zq 0 _ _ _ HN7.out
   have xy:=Lib.hid (lM aY qK uD.out Zy.out.tm (by have:=rP.out; omega))
   go_wp2_with fail
   refine xy.out.mono ?_
   rintro e w8 ⟨vB,rfl,hvB,hb⟩
   have HQ8:=Lib.hid (uD.out.below hb)
   have HP8:=Lib.hid (Zy.out.bU uD.out HQ8.out (fun _ e=>e) hb)
   have HN8:=Lib.hid ((hb.block _ (lt_of_block HN7.out)).trans HN7.out)
   have agh:=Lib.hid hvB
   have agi:=Lib.hid hb
   clear hvB hb xy u70 Zy HN7
   have u80:=cell_of_row w8 Zq 0 _ _ _ HN8.out
   have xy:=Lib.hid (lM qK aY HQ8.out HP8.out.tm (by have:=rP.out; omega))
   go_wp2_with fail
   refine xy.out.mono ?_
   rintro e w9 ⟨vC,rfl,hvC,hb⟩
   have UZ:=Lib.hid (HQ8.out.below hb)
   have HP9:=Lib.hid (HP8.out.bU HQ8.out UZ.out (fun _ e=>e) hb)
   have Vx:=Lib.hid ((hb.block _ (lt_of_block HN8.out)).trans HN8.out)
   have amZ:=Lib.hid hvC
   have Zi:=Lib.hid hb
   clear hvC hb xy u80 HP8 HN8
   have am0:=Lib.hid (aK agi.out Zi.out)
   have hoA:=(ai9.out.below agi.out).below Zi.out
   rw [ny] at hoA
   have HOA:=Lib.hid hoA
   clear hoA
   obtain ⟨aA,cA,hvA,hcA⟩:=HOA.out.shape
   have HVA:=Lib.hid hvA
   clear hcA hvA
   have adQ:=Lib.hid (DK HP9.out.tm.at_.wf)
   go_upto_region 15 with fail
   go_cut [118] from 97 to 118 (fun apN wc=>apN = .bool false∧TQ w wc P D gl 1024 (az (1024 * 512)) (dE 1024) [] [] M5∧PM wc P 1024 (az (1024 * 512)) (dE 1024) [] M5 t5 R5 a5 c5∧wc.heap[Zq]? = some (.cells #[.pointer (some ⟨t5,0,none⟩),.slice a5 m5 c5] 34 (0,0))∧∃ B,rO wc B vA R5.cn)
   case first =>
    by_cases hcut:qK=aY
    ·have hc0:qK=⟨#[]⟩:=hcut
     subst hc0
     clear hcut
     go_wp2_with fail
     go_meet
     exact ⟨rfl,UZ.out,HP9.out,Vx.out,_,HOA.out⟩
    ·have hcl:(qK.toList == [])=false:=by
      rw [Lib.toList_data]
      refine beq_eq_false_iff_ne.2 (fun e=>hcut (ByteArray.ext (Array.toList_inj.1 (by rw [e]; rfl))))
     have HP:=Lib.hid (Gu qK hcut R5.cn adQ.out)
     have Ah:=Lib.hid (og (agh.out.below Zi.out) (Nat.le_trans agi.out.size Zi.out.size) vC (DD amZ.out) (by have h1:(fF (aY,qK) R5.cn).length≤R5.cn.length:=List.length_filter_le _ _; have h2:(fF (qK,aY) R5.cn).length≤R5.cn.length:=List.length_filter_le _ _; have:=rP.out; omega) 30)
     rw [HP.out] at Ah
     clear hcut
     go_wp2_with (first
      | (at_builtin; obtain ⟨v10,w10,hr,adR,adS,_⟩:=Ah.out; refine Ic _ (by kernel_rfl) _ _ 30 30 rfl _ _ rfl rfl hr ?_; have aja:=Lib.hid adR; have aiq:=Lib.hid (Touch.grown adS); clear adR adS hr Ah))
     have htq:=adP uD.out am0.out aiq.out (fun g hg=>⟨(agh.out.lt g hg).1,Nat.lt_of_lt_of_le (agh.out.lt g hg).2 Zi.out.size⟩)
     have agk:=Lib.hid htq.1
     have ajb:=Lib.hid htq.2
     clear htq
     have ahb:=Lib.hid (HOA.out.move (fun g hg=>ajb.out g (ai9.out.lt g hg).2))
     have apP:=Lib.hid (HP9.out.mono (fun k hk=>ajb.out k (uD.out.q.gI k hk)) (fun _ e=>e) agk.out.q.gI (fun _ _ e=>e))
     have am1:=Lib.hid ((ajb.out Zq HXL.out).trans Vx.out)
     have qM:=Lib.hid (show Calls Tryz.prog 13 #[v10,vA] w10 fun e w'=>e = .returned (.bool true)∧Below w10.heap.size w10 w' from by
      obtain ⟨a10,c10,e10,hk10⟩:=aja.out.ks
      obtain ⟨aA,cA,eA,Ph⟩:=ahb.out.ks
      rw [e10,eA]
      exact o7 a10 aA c10 cA R5.cn w10 hk10 Ph (by have:=rP.out; omega))
     refine qM.out.mono ?_
     rintro e w11 ⟨rfl,QK⟩
     have U0:=Lib.hid QK
     clear QK qM
     go_wp2_with fail
     go_meet
     exact ⟨rfl,agk.out.below U0.out,apP.out.bU agk.out (agk.out.below U0.out) (fun _ e=>e) U0.out,(U0.out.block _ (lt_of_block am1.out)).trans am1.out,_,ahb.out.below U0.out⟩
   case rest =>
    obtain ⟨rfl,hq,hp,hn,B,ho⟩:=hcut
    have HQc:=Lib.hid hq
    have HPc:=Lib.hid hp
    have HNc:=Lib.hid hn
    obtain ⟨aA,cA,rfl,hcA⟩:=ho.shape
    have HOc:=Lib.hid ho
    clear hq hp hn ho hcA am0 HOA HVA uD HQ8 UZ HP9 Vx ai9 agh amZ apM agi Zi HXL
    have aud:=xA
    have mI:(m5:Int)≤150:=by have:=rP.out; have:=xA.out; omega
    rw [xA.out]
    go_wp2_with fail
    go_loopw [20,21,22,121] (fun _ _ _ apQ wr=>∃ i:Nat,i≤m5∧apQ = .int .i64 (i:Int)∧Below wc.heap.size wc wr) (fun _ _ _ v _=>m5 - (intOf v).toNat)
    case atStart=>exact ⟨0,Nat.zero_le _,rfl,Below.refl _ _⟩
    case round =>
     obtain ⟨i,hi,rfl,hbr⟩:=hrel
     have HBr:=Lib.hid hbr
     have HQr:=Lib.hid (HQc.out.below hbr)
     have HPr:=Lib.hid (HPc.out.bU HQc.out HQr.out (fun _ e=>e) hbr)
     have HNr:=Lib.hid ((hbr.block _ (lt_of_block HNc.out)).trans HNc.out)
     have HOr:=Lib.hid (HOc.out.below hbr)
     clear hbr
     by_cases hlt:i<m5
     ·obtain ⟨x,hx⟩:∃ x,R5.cn[i]? = some x:=⟨_,List.getElem?_eq_getElem (by rw [xA.out]; exact hlt)⟩
      obtain ⟨a',c',e',hkv⟩:=HOr.out.ks
      injection e' with e1 _ e2
      subst e1 e2
      obtain ⟨g,o,rfl,kx,vx⟩:=hkv.at_ i x hx
      have hix:=kN g o m5 cA i hlt
      have bz:=Lib.hid hlt
      have hxm:=List.mem_of_getElem? hx
      have hmay:=ai7 HPr.out.tm.at_.wf x hxm
      have hgl:=QJ adQ.out hxm
      have iI:(i:Int)<(m5:Int):=by omega
      have i0:(0:Int)≤(i:Int):=by omega
      have hbi:=aJ wr (.cells #[.string x.1,.string x.2] 75)
      have hni:=ah wr (.cells #[.string x.1,.string x.2] 75)
      have Zz:=Lib.hid (show Calls Tryz.prog 26 #[.pointer (some ⟨t5,0,none⟩),.string x.1] (wr.alloc (.cells #[.string x.1,.string x.2] 75)) fun e w'=>e = .returned (.tuple #[.string x.2,.int .i64 0])∧Below (wr.alloc (.cells #[.string x.1,.string x.2] 75)).heap.size (wr.alloc (.cells #[.string x.1,.string x.2] 75)) w' from by
       have h:=MH x.1 (HQr.out.below hbi) (HPr.out.tm.bU HQr.out (HQr.out.below hbi) (fun _ e=>e) hbi) (by have:=rP.out; omega) (by have:=hmay.2; omega)
       rw [hmay.1,hgl] at h
       exact h)
      have u0:=cell_of_row _ Zq 0 _ _ _ ((hbi.block _ (lt_of_block HNr.out)).trans HNr.out)
      have am3:=cell_of_row _ wr.heap.size 0 _ _ _ hni
      have k1':=cell_of_row _ wr.heap.size 1 _ _ _ hni
      have HBI:=Lib.hid hbi
      clear hi hlt hx hkv hxm hmay hgl hbi hni
      go_upto_region 20 with fail
      generalize hwi:World.alloc wr (.cells #[.string x.1,.string x.2] 75)=wi at *
      go_wp2_with fail
      refine Zz.out.mono ?_
      rintro e w12 ⟨rfl,Zj⟩
      have j1:=ae k1' (Zj.block _ (block_lt_of_cell k1'))
      have V6:=Lib.hid (aK HBr.out (aK HBI.out Zj))
      clear Zj Zz am3 k1' u0 hwi hix
      go_wp2_with fail
      go_roundw
      case rel=>exact ⟨i+1,by have:=bz.out; omega,by go_num,V6.out⟩
      case measure=>simp [intOf]; have:=bz.out; omega
     ·obtain rfl:m5=i:=by omega
      clear hi hlt
      have apT:=Lib.hid (show R5.cn.length≤1000 by have:=rP.out; omega)
      have u0:=cell_of_row wr Zq 0 _ _ _ HNr.out
      have HPU:=Lib.hid (MG uw Ie HQr.out HPr.out.tm apT.out (by have:=jM.out; omega) (by have:=jM.out; omega))
      go_wp2_with fail
      refine HPU.out.mono ?_
      rintro e wp ⟨Mp,hqp,hsp,hbp,hcp⟩
      have HQp:=Lib.hid hqp
      have HBp:=Lib.hid hbp
      have HOp:=Lib.hid (HOr.out.below hbp)
      clear HPU u0 hqp hsp hbp
      unfold Ia at hcp
      cases hmy:(jk uw && decide (Ie.size≤96)) with
      | false =>
        rw [hmy] at hcp
        have he:e = .returned (.tuple #[.pointer none,.int .i64 2]):=hcp
        subst he
        clear hcp hmy
        go_wp2_with fail
        go_ret
        exact ⟨rfl,HQp.out.q.bel⟩
      | true =>
        rw [hmy,if_pos rfl] at hcp
        rw [Bool.and_eq_true] at hmy
        rcases hcp with ⟨h1,_⟩ | ⟨_,t7,R7,rfl,yK,hc7,_⟩
        ·exact absurd rfl h1
        have HT7:=Lib.hid yK
        have UY:R7.cn=jT uw Ie R5.cn:=hc7
        have hl7:=Gt uw Ie R5.cn
        have HC7:=Lib.hid UY
        have HL7:=Lib.hid (show R7.cn.length≤1000 by rw [UY]; have:=rP.out; omega)
        have hg7:=MH uw HQp.out HT7.out HL7.out (by have:=jM.out; omega)
        rw [hmy.1,UY,Gw uw Ie R5.cn adQ.out] at hg7
        have Zz:=Lib.hid (show Calls Tryz.prog 26 #[.pointer (some ⟨t7,0,none⟩),.string uw] wp fun e w'=>e = .returned (.tuple #[.string Ie,.int .i64 0])∧Below wp.heap.size wp w' from hg7)
        have HMY:=Lib.hid hmy.1
        clear hmy yK hc7 UY hl7 hg7
        go_wp2_with fail
        refine Zz.out.mono ?_
        rintro e wq ⟨rfl,hbq⟩
        have HQq:=Lib.hid (HQp.out.below hbq)
        have am6:=Lib.hid (HT7.out.bU HQp.out HQq.out (fun _ e=>e) hbq)
        have HOq:=Lib.hid (HOp.out.below hbq)
        clear hbq Zz HT7 HOp HQp
        have HDL:=Lib.hid (adA uw HQq.out am6.out HL7.out (by have:=jM.out; omega))
        go_wp2_with fail
        refine HDL.out.mono ?_
        rintro e ws ⟨Ms,hqs,hss,hbs,hcs⟩
        have HQs:=Lib.hid hqs
        have HOs:=Lib.hid (HOq.out.below hbs)
        clear hqs hss hbs HDL am6 HOq HQq
        unfold Ia at hcs
        rw [HMY.out,if_pos rfl] at hcs
        have herr:Cg.err (.del uw) R7.cn=0:=by
         show (if xg uw R7.cn then (0:Int) else 8)=0
         rw [HC7.out,adN uw Ie R5.cn adQ.out]
         rfl
        rcases hcs with ⟨h1,_⟩ | ⟨_,t8,R8,rfl,ht8,hc8,_⟩
        ·exact absurd herr h1
        have HT8:=Lib.hid ht8
        have agl:R8.cn=xm uw R5.cn:=by
         have h:R8.cn=delS uw R7.cn:=hc8
         rw [h,HC7.out,Wl uw Ie R5.cn adQ.out]
        have HC8:=Lib.hid agl
        have HL8:=Lib.hid (show R8.cn.length≤1000 by rw [agl]; have h:(xm uw R5.cn).length≤R5.cn.length:=List.length_filter_le _ _; have:=rP.out; omega)
        have hg8:=MH uw HQs.out HT8.out HL8.out (by have:=jM.out; omega)
        rw [HMY.out,agl,adO] at hg8
        have Zz:=Lib.hid (show Calls Tryz.prog 26 #[.pointer (some ⟨t8,0,none⟩),.string uw] ws fun e w'=>e = .returned (.tuple #[.string aY,.int .i64 8])∧Below ws.heap.size ws w' from hg8)
        clear ht8 hc8 agl hg8 herr
        go_wp2_with fail
        refine Zz.out.mono ?_
        rintro e wt ⟨rfl,hbt⟩
        have HQt:=Lib.hid (HQs.out.below hbt)
        have am8:=Lib.hid (HT8.out.bU HQs.out HQt.out (fun _ e=>e) hbt)
        have HOt:=Lib.hid (HOs.out.below hbt)
        clear hbt Zz HT8 HOs HQs
        have xy:=Lib.hid (lM aY aY HQt.out am8.out HL8.out)
        go_wp2_with fail
        refine xy.out.mono ?_
        rintro e wl ⟨vL,rfl,hvL,hbl⟩
        rw [ny,HC8.out] at hvL
        have HQl:=Lib.hid (HQt.out.below hbl)
        have HOl:=Lib.hid (HOt.out.below hbl)
        have HVL:=Lib.hid hvL
        clear hvL hbl xy am8 HOt HQt
        go_wp2_with fail
        go_loopw [33,35,194] (fun v33 _ v194 wr=>∃ i:Nat,i≤m5∧v194 = .int .i64 (i:Int)∧rO wr wl.heap.size v33 (xm uw (R5.cn.take i))∧Below wl.heap.size wl wr) (fun _ _ v _=>m5 - (intOf v).toNat)
        case atStart=>exact ⟨0,Nat.zero_le _,rfl,zD _ _,Below.refl _ _⟩
        case round =>
         obtain ⟨j,hj,rfl,hwv,hbz⟩:=hrel
         have HBz:=Lib.hid hbz
         have HWV:=Lib.hid hwv
         have HOz:=Lib.hid (HOl.out.below hbz)
         clear hbz hwv
         by_cases hlt:j<m5
         ·obtain ⟨x,hx⟩:∃ x,R5.cn[j]? = some x:=⟨_,List.getElem?_eq_getElem (by rw [xA.out]; exact hlt)⟩
          obtain ⟨a',c',e',hkv⟩:=HOz.out.ks
          injection e' with e1 _ e2
          subst e1 e2
          obtain ⟨g,o,rfl,kx,vx⟩:=hkv.at_ j x hx
          have hix:=kN g o m5 cA j hlt
          have bz:=Lib.hid hlt
          have uF:=Lib.hid (Zf uw R5.cn j x hx)
          have iI:(j:Int)<(m5:Int):=by omega
          have i0:(0:Int)≤(j:Int):=by omega
          have hbi:=aJ wr (.cells #[.string x.1,.string x.2] 75)
          have hni:=ah wr (.cells #[.string x.1,.string x.2] 75)
          have am3:=cell_of_row _ wr.heap.size 0 _ _ _ hni
          have k1':=cell_of_row _ wr.heap.size 1 _ _ _ hni
          have HBI:=Lib.hid hbi
          have Y2:=Lib.hid (HWV.out.below hbi)
          have ana:=Lib.hid (show (xm uw (R5.cn.take j)).length≤150 from Nat.le_trans (List.length_filter_le _ _) (by rw [List.length_take]; have:=rP.out; omega))
          clear hj hlt hx hkv hbi hni
          go_upto_region 37 with fail
          generalize hwi:World.alloc wr (.cells #[.string x.1,.string x.2] 75)=wi at *
          by_cases he:x.1=uw
          ·have hs:(x.1.toList == uw.toList)=true:=by rw [he]; simp
           rw [if_pos he] at uF
           go_wp2_with fail
           go_roundw
           case rel=>exact ⟨j+1,by have:=bz.out; omega,by go_num,by rw [uF.out,List.append_nil]; exact Y2.out,aK HBz.out HBI.out⟩
           case measure=>simp [intOf]; have:=bz.out; omega
          ·have hs:(x.1.toList == uw.toList)=false:=by
            rw [Lib.toList_data,Lib.toList_data]
            exact beq_eq_false_iff_ne.2 (fun e=>he (ByteArray.ext (Array.toList_inj.1 e)))
           rw [if_neg he] at uF
           have hal:=aJ wi (.cells #[.string x.1,.string x.2] 75)
           have hlk:=fun (u v:Value) (W:World)=>Fz u v W
           have Ah:=Lib.hid (og (M:=[x]) (Y2.out.below hal) (Nat.le_trans (aK HBz.out HBI.out).size hal.size) (.slice (some ⟨wi.heap.size,0,none⟩) 1 1) (.inr ⟨_,1,rfl,fun j y hy=>cO (cs:=[.string x.1,.string x.2]) (ah wi _) j y hy⟩) (by have:=ana.out; simp only [List.length_cons,List.length_nil]; omega) 30)
           have uz:=Lib.hid hal
           clear hal
           go_wp2_with (first
            | (at_builtin; obtain ⟨v10,w10,hr,adR,adS,_⟩:=Ah.out; refine aV _ rfl _ _ 30 30 rfl _ _ rfl rfl hr ?_; have aja:=Lib.hid adR; have apV:=Lib.hid (kv_grown (Y2.out.below uz.out) adS (aK (aK HBz.out HBI.out) uz.out)); clear adR adS hr Ah))
           go_roundw
           case rel=>exact ⟨j+1,by have:=bz.out; omega,by go_num,by rw [uF.out]; exact aja.out,apV.out⟩
           case measure=>simp [intOf]; have:=bz.out; omega
         ·obtain rfl:m5=j:=by omega
          have hwv:=HWV.out
          rw [List.take_of_length_le (Nat.le_of_eq xA.out)] at hwv
          have qM:=Lib.hid (fun (v33:Value) (hv:rO wr wl.heap.size v33 (xm uw R5.cn))=>show Calls Tryz.prog 13 #[vL,v33] wr fun e w'=>e = .returned (.bool true)∧Below wr.heap.size wr w' from by
           obtain ⟨a10,c10,e10,hk10⟩:=hv.ks
           obtain ⟨aL,cL,eL,hkL⟩:=(HVL.out.below HBz.out).ks
           rw [e10,eL]
           exact o7 aL a10 cL c10 (xm uw R5.cn) wr hkL hk10 (Nat.le_trans (List.length_filter_le _ _) (by have:=rP.out; omega)))
          have anb:=Lib.hid (qM.out _ hwv)
          clear hj hlt hwv qM
          go_wp2_with fail
          refine anb.out.mono ?_
          rintro e wf ⟨rfl,hbf⟩
          have HF:=Lib.hid ((HQl.out.below (aK HBz.out hbf)).q.bel)
          clear hbf anb
          go_wp2_with fail
          go_ret
          exact ⟨rfl,HF.out⟩
set_option maxRecDepth 100000 in
theorem lifted (os:Os)(started:os.Started)(H:Type)(enc:TypeId×Value→H) :
 ReturnsInHanded {} Tryz.checked os 6 .any (fun w args=>(Rows.treeScansSpec.pre enc Tryz.prog Tryz.f6 [] false w args∧laidMetH Tryz.prog [("banyan/sha.roundNumbers",Rows.laid_banyan_sha_roundNumbers),("math/bits.deBruijn64tab",Rows.laid_math_bits_deBruijn64tab)] w)∧sizedMet enc Tryz.prog Tryz.f6 (OpenSpec.ofChange Rows.treeScansSpec) false w args)
  (Rows.treeScansSpec.post enc Tryz.prog Tryz.f6 false true false false):=by
 refine returnsInHanded_of_change_and (C:=Tryz.checked) (X:=fun w _=>laidMetH Tryz.prog [("banyan/sha.roundNumbers",Rows.laid_banyan_sha_roundNumbers),("math/bits.deBruijn64tab",Rows.laid_math_bits_deBruijn64tab)] w) (fun _ _ _ hh h=>h.of_heap hh) ahn started (by kernel_rfl) Tryz.func6
  (ChangeSpec.witness_shaped (enc:=enc) (C:=Tryz.checked) (os:=os) (X:=fun w _=>laidMetH Tryz.prog [("banyan/sha.roundNumbers",Rows.laid_banyan_sha_roundNumbers),("math/bits.deBruijn64tab",Rows.laid_math_bits_deBruijn64tab)] w) false (World.doorLaid Tryz.prog 400 os) #[.agg #[.slice none 0 0,.string ⟨#[]⟩,.string ⟨#[]⟩,.string ⟨#[]⟩]] 8 rfl (World.shaped_of_RefB (by kernel_rfl) (by kernel_rfl)) (by kernel_rfl) (by kernel_rfl) (by kernel_rfl) (AL os _)) ?_
 intro W base args ds gs before hval0 hW _ hsz0 hL _
 have hval:∀ (j:Nat) t v,Tryz.f6.params[j]? = some t→args[j]? = some v→Value.okWide Tryz.prog W .any base t v:=hval0
 have hsz:(DataW.weightsEach Tryz.prog (Tryz.f6.params.toList++Rows.treeScansSpec.plain.varTypes Tryz.prog) (ds++gs)).all (· ≤ reachBytes)=true:=hsz0
 clear hsz0
 have hW':=hW
 obtain ⟨p,q,hA0,hV,rfl,hfz,hnd⟩:=hW
 have hA:DataW.TrodAll enc Tryz.prog W 0 (fun _=>true) true Tryz.f6.params.toList args.toList ds p:=hA0
 rw [Tryz.params6] at hA hval hsz
 obtain ⟨v0,vs0,d0,ds0,p0,q0,hargs,rfl,rfl,h0,r0⟩:=trodAll_cons hA
 obtain ⟨rfl,rfl,rfl⟩:=trodAll_nil r0
 obtain rfl:args=#[v0]:=by cases args; simp_all
 obtain ⟨rfl,rfl⟩:=trodVars_none hV
 have k0:=h0
 have lt0:∀ x ∈ p0,x.block<W.heap.size:=by obtain ⟨m,hm⟩:=k0; exact DataW.trod_lt m _ _ _ hm
 obtain ⟨x0,a0,len0,cap0,qK,uw,Ie,rfl,sl0,z1,z2,z3⟩:=Zh (j:=0) (hval 0 73 v0 rfl rfl) h0 hsz rfl rfl
 have hKT:=rX hL
 clear hA0 hval0
 refine (walk W x0 a0 len0 cap0 qK uw Ie sl0 z1 z2 z3 hKT.1 hKT.2).mono fun e W' ⟨he,bel⟩=>?_
 subst he
 exact ⟨_,rfl,_,_,_, [],_, [],hW',trodAll_mk1 (shut_bool Tryz.underlying4 _),(trodAll_cons_mk (Below.trod yT (by kernel_rfl) (of_decide_eq_true (by kernel_rfl)) k0 bel lt0) trodAll_mk0),rfl,bel.frame _,fun h=>by cases h⟩

theorem over:Rows.TreeScansSaid :=
 OpenClaim.holds_of_wide 6 Tryz.f6 rfl rfl rfl rfl rfl rfl rfl ⟨rfl,rfl,rfl,rfl,rfl⟩ rfl rfl rfl rfl rfl (by kernel_rfl) Tryz.func6 (by kernel_rfl)
  (of_decide_eq_true (by kernel_rfl)) (by unfold Func.isWrapper; first | (rw [if_pos (by decide +kernel)]; kernel_rfl) | (rw [if_neg (by decide +kernel)]; exact ⟨rfl,rfl⟩))
  (fun os started H enc _=>lifted os started H enc)

/-- The statement. -/
theorem proved:Rows.TreeScansCardSaid :=
 Claim7.holds_tied_plain_at .later [] [.data,.data] true (true, "9ad3d20c50d472851ffdac8307fffc9beef33574a5a2d28b2fee6535d13e0c7f") false
  over (fun _ h=>by cases h) (by kernel_rfl) (fun _ h=>by cases h) treeScans_row_tie rfl ⟨rfl,rfl⟩ (by kernel_rfl) rfl
  (fun f fn hf hfn=>by
    obtain rfl:f=6:=Option.some.inj ((show Tryz.prog.funcNamed "banyan/banyanlaw14.TreeScans" = some 6 by kernel_rfl).symm.trans hf) |>.symm
    obtain rfl:fn=Tryz.f6:=(Option.some.inj (Tryz.func6.symm.trans hfn)).symm
    exact ⟨by kernel_rfl,fun j t ht=>by
     rw [Tryz.params6] at ht
     have hm:t ∈ [73]:=by simpa using Array.mem_of_getElem? ht
     have hall:([73].all fun u => !Tryz.prog.wantsStandIn u)=true:=by kernel_rfl
     exact (show Tryz.prog.wantsStandIn t=false by simpa using List.all_eq_true.1 hall t hm)⟩)
  (by kernel_rfl)
#print axioms proved
end Go.Proofs.YtljjcbmkbmloaaaGreatDoor.treeScans
