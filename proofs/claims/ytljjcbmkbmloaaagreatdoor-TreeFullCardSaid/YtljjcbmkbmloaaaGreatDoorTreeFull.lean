/-
  'TreeFull' returns true at every input, and each argument reads behind the call as it read before. Conditions: the package-level variable that the row lists starts as the program's text lays it (the card ties that).
-/
import Derived.Test.YtljjcbmkbmloaaaGreatDoorGTr10
import Derived.Test.YtljjcbmkbmloaaaGreatDoorCards
import Derived.Test.YtljjcbmkbmloaaaGreatDoorTie
import Derived.Test.YtljjcbmkbmloaaaGreatDoorGTr49
namespace Go.Proofs.YtljjcbmkbmloaaaGreatDoor.treeFull
open Go.ChangeShapes Go.WideShapes Go.ChangeAt Go.RowKit
set_option linter.unusedVariables false


set_option maxRecDepth 100000 in
set_option maxHeartbeats 6400000 in
theorem walk (w:World)(a0:Option Addr)(len0 cap0:Nat)(x0:List kC)(sl0:SlR CQ 4 w x0 a0 len0 cap0)(z1:Int)(za1:0≤z1)(zb1:z1≤255)(hK:KT w)(hT:TZ w) :
 Calls Tryz.prog 5 #[.slice a0 len0 cap0,.int .u8 z1] w fun e w'=>e = .returned (.bool true)∧Below w.heap.size w w':=by
 have HA:=Lib.hid (vT w hK hT)
 obtain ⟨kp,rfl⟩:∃ t:Nat,z1=(t:Int):=⟨z1.toNat,by omega⟩
 have HKP:=Lib.hid (show kp≤255 by omega)
 have QN:=Lib.hid (And.intro hK hT)
 obtain ⟨hat,hok⟩:=ady sl0
 have HLEN:=Lib.hid sl0.len
 have HCAP:=Lib.hid (And.intro sl0.cap sl0.big)
 have HAT:=Lib.hid hat
 have pG:=Lib.hid hok
 clear sl0 hat hok
 clear hK hT za1 zb1
 go_enter Tryz.func5,Tryz.ntmps5
 go_wp2_with fail
 refine HA.out.mono ?_
 rintro e w1 ⟨rfl,hb1⟩
 have HB1:=Lib.hid hb1
 clear hb1 HA
 have QT:=Lib.hid (MF a0 cap0 x0 w1 (HAT.out.below HB1.out) pG.out (by rw [HLEN.out]; exact Nat.le_trans HCAP.out.1 HCAP.out.2))
 rw [HLEN.out] at QT
 go_wp2_with fail
 refine QT.out.mono ?_
 rintro e w3 ⟨hg,hb3⟩
 have HB3:=Lib.hid (aK HB1.out hb3)
 clear hb3 QT HB1
 rcases hg with rfl | ⟨rfl,hg1,hg2⟩
 ·go_wp2_with fail
  go_ret
  exact ⟨rfl,HB3.out⟩
 ·have VI:=Lib.hid (And.intro hg1 hg2)
  clear hg1 hg2
  have QU:=Lib.hid (DN w w3 64 QN.out.1 QN.out.2 HB3.out (by decide) (by decide))
  go_wp2_with fail
  refine QU.out.mono ?_
  rintro e w4 ⟨t,P,D,gl,M4,rfl,hq4,MP,_⟩
  have mQ:=Lib.hid hq4
  have HT4:=Lib.hid MP
  clear hq4 MP QU
  have HGW:=Lib.hid (Wj w w4 P D gl 64 _ _ _ [] M4 t a0 cap0 x0 mQ.out HT4.out HAT.out VI.out.1 VI.out.2 pG.out)
  rw [HLEN.out] at HGW
  go_wp2_with fail
  refine HGW.out.mono ?_
  rintro e w5 ⟨M5,t5,R5,a5,c5,hs5,hp5,rfl,hl5⟩
  have lQ:=Lib.hid hs5
  have GM:=Lib.hid hp5
  have rP:=Lib.hid (show R5.cn.length≤150 by have:=VI.out.1; have:=HLEN.out; omega)
  obtain ⟨m5,pJ⟩:∃ z,R5.cn.length=z:=⟨_,rfl⟩
  have xA:=Lib.hid pJ
  rw [pJ]
  clear hs5 hp5 hl5 pJ HGW
  go_upto_region 11 with fail
  generalize hw6:World.alloc w5 (.cells #[.pointer (some ⟨t5,0,none⟩),.slice a5 m5 c5] 34)=w6
  have hb6:=aJ w5 (.cells #[.pointer (some ⟨t5,0,none⟩),.slice a5 m5 c5] 34)
  have Hy:=ah w5 (.cells #[.pointer (some ⟨t5,0,none⟩),.slice a5 m5 c5] 34)
  rw [hw6] at hb6 Hy
  have jL:=Lib.hid (TQ.mk (lQ.out.tq.q.add hb6 w5.heap.size _ _ (Nat.le_refl _) Hy) lQ.out.tq.few)
  have MQ:=Lib.hid (GM.out.mono (aX lQ.out.tq.q.gI hb6) (fun _ e=>e) (fun k hk=>Nat.lt_of_lt_of_le (lQ.out.tq.q.gI k hk) hb6.size) (fun _ _ e=>e))
  clear hw6 hb6 Hy mQ HT4 lQ GM
  generalize w5.heap.size=X at *
  obtain ⟨kn,hkn⟩:∃ z,kp % 60=z:=⟨_,rfl⟩
  have HKN:=Lib.hid (show kn≤59 by omega)
  have ap3:(kp:Int) % 60=(kn:Int):=by omega
  have kpI:(kp:Int)≤255:=by have:=HKP.out; omega
  have kp0:(0:Int)≤(kp:Int):=by omega
  have knI:(kn:Int)≤59:=by have:=HKN.out; omega
  have kn0:(0:Int)≤(kn:Int):=by omega
  clear hkn
  go_wp2_with fail
  clear ap3 kpI kp0
  go_loopw [11,12,48] (fun v11 _ v48 wr=>∃ (i:Nat) (a:Option Addr) (c:Nat),i≤kn∧v48 = .int .u32 (i:Int)∧v11 = .slice a i c∧OU wr w6.heap.size (.slice a i c) ((List.range i).map (· + 2))∧Below w6.heap.size w6 wr) (fun _ _ v _=>kn - (intOf v).toNat)
  case atStart=>exact ⟨0,none,0,Nat.zero_le _,rfl,rfl,OU.nil _ _,Below.refl _ _⟩
  case round =>
   obtain ⟨i,a,c,hi,rfl,rfl,ho,hbr⟩:=hrel
   by_cases hlt:i<kn
   ·have iI:(i:Int)<(kn:Int):=by omega
    have i0:(0:Int)≤(i:Int):=by omega
    obtain ⟨y,hy⟩:∃ y,i+2=y:=⟨_,rfl⟩
    have hyI:(i:Int)+2=(y:Int):=by omega
    have y0:(0:Int)≤(y:Int):=by omega
    have y1:(y:Int)<70:=by omega
    obtain ⟨a8,c8,w8,hap,hO8,ht8,ho8⟩:=YX wr w6.heap.size i c y a _ ho (by simp) (by have:=HKN.out; omega) (by have:=HKN.out; omega) hbr.size
    have Yc:=Lib.hid (show Below w6.heap.size w6 w8 from hbr.trans (ht8.below hbr.size (fun k hk=>(World.ownsRow.lt ho k (by simpa using hk)).1)))
    have HO8:=Lib.hid (show OU w8 w6.heap.size (.slice a8 (i+1) c8) ((List.range (i+1)).map (· + 2)) by rw [List.range_succ,List.map_append]; show OU _ _ _ (_++[i+2]); rw [hy]; exact hO8)
    have Ah:=Lib.hid hap
    have bz:=Lib.hid hlt
    clear hi hlt ho hbr hy hap hO8 ht8 ho8
    go_wp2_with (first
     | (at_builtin; refine aV _ rfl _ _ 68 68 rfl _ _ rfl rfl Ah.out ?_))
    go_roundw
    case rel=>exact ⟨i+1,a8,c8,by have:=bz.out; omega,by go_num,rfl,HO8.out,Yc.out⟩
    case measure=>simp [intOf]; have:=bz.out; omega
   ·obtain rfl:kn=i:=by omega
    have hqr:=jL.out.below hbr
    have hpr:=MQ.out.mono (aX jL.out.q.gI hbr) (fun _ e=>e) (fun k hk=>Nat.lt_of_lt_of_le (jL.out.q.gI k hk) hbr.size) (fun _ _ e=>e)
    obtain ⟨T,hT⟩:∃ T,(List.range kn).map (· + 2)=T:=⟨_,rfl⟩
    have ajh:∀ x ∈ T,2≤x∧x<64:=by
     rw [← hT]
     intro x hx
     obtain ⟨z,hz,rfl⟩:=List.mem_map.1 hx
     have:=List.mem_range.1 hz
     have:=HKN.out
     omega
    have hTl:kn=T.length:=by rw [← hT]; simp
    rw [hT] at ho
    have hset:=V7 kn c a T hqr.q (aaS ho (fun x hx=>by have:=ajh x hx; omega) hTl) (by have:=HKN.out; omega) true ⟨fun _ x hx=>ajh x hx,fun _=>rfl⟩
    rw [show Kw 64 (dE 64) T true=(0,pM 64 T) from rfl] at hset
    have HST:=Lib.hid hset
    have HQR:=Lib.hid hqr
    have Af:=Lib.hid hpr
    clear hset hqr hpr hT ajh hTl ho hbr hi hlt jL MQ
    go_wp2_with fail
    refine HST.out.mono ?_
    rintro e w7 ⟨rfl,hq7,yK⟩
    have uD:=Lib.hid (TQ.mk hq7 (by have:=cnt_le (pM 64 T) 64; simp only [List.length_nil]; omega))
    have Zy:=Lib.hid (Af.out.mono (fun k hk=>yK.block k (HQR.out.q.gI k hk) (by simp only [List.mem_singleton]; rintro rfl; exact HQR.out.q.MR hk)) (fun _ e=>e) (fun k hk=>Nat.lt_of_lt_of_le (HQR.out.q.gI k hk) yK.size) (fun _ _ e=>e))
    clear hq7 yK HST HQR Af
    generalize pM 64 T=F7 at *
    have HV7:=Lib.hid (Zy.out.mono (F':=F7) (ws':=[]) (fun _ _=>rfl) (fun _ e=>e) uD.out.q.gI (fun q nd e=>(DR e).elim))
    have Wi:=Lib.hid (iZ HV7.out.tm)
    have CZ:=Lib.hid (Ac uD.out)
    have Qe:w7.heap[X]? = some (.cells #[.pointer (some ⟨t5,0,none⟩),.slice a5 m5 c5] 34 (0,0)):=uD.out.q.row 0 _ rfl
    have p0:=cell_of_row w7 X 0 _ _ _ Qe
    clear Qe
    go_upto_region 19 with fail
    obtain ⟨nf,hnf⟩:∃ z,R5.fr=z:=⟨_,rfl⟩
    obtain ⟨lf,hlf⟩:∃ z,cnt F7 64=z:=⟨_,rfl⟩
    rw [hnf] at Wi
    rw [hlf] at CZ
    have nfI:(nf:Int)≤2000:=by have:=(pg HV7.out.tm.at_.wf (by have:=rP.out; omega)).2.1; omega
    have lfI:(lf:Int)≤64:=by have:=cnt_le F7 64; omega
    have nf0:(0:Int)≤(nf:Int):=by omega
    have lf0:(0:Int)≤(lf:Int):=by omega
    have HNF:=Lib.hid hnf
    have ani:=Lib.hid hlf
    clear hnf hlf
    go_wp2_with fail
    refine Wi.out.mono ?_
    rintro e w8 ⟨rfl,hw8⟩
    subst w8
    clear Wi
    go_wp2_with fail
    refine CZ.out.mono ?_
    rintro e w8 ⟨rfl,hw8⟩
    subst w8
    clear CZ
    have xC:=Lib.hid (Aa uD.out HV7.out.tm)
    have hp0:=dK
    obtain ⟨ZL,Gp⟩:∃ z,(ag ai).toArray=z:=⟨_,rfl⟩
    have SE:=Lib.hid kE
    rw [Gp] at hp0 SE
    clear Gp
    go_wp2_with fail
    refine xC.out.mono ?_
    rintro e w8 ⟨F8,ws8,M8,q,er,tp,hs8,rfl,hres⟩
    have HS8:=Lib.hid hs8
    have HP8:=Lib.hid (Zy.out.mono hs8.st hs8.sub hs8.tq.q.gI (fun _ _ e=>e))
    have Hq:=Lib.hid hres
    have QO:=Lib.hid (show ws8.length≤99000 by have h:=hs8.more.len; have h1:=cnt_le F7 64; simp only [List.length_nil] at h; omega)
    clear hs8 hres xC p0
    go_upto_region 21 with (first
     | (with_reducible refine wpList_store_row (o:=⟨none,.store _ (.tmp 16) _,_,_,_,_⟩) rfl 51 _ _ rfl w8.heap.size (ag q).toArray rfl rfl 51 ZL (heap_alloc_new w8 _) (bG q) (SE.out q) (bf q) ?_))
    generalize hWs:World.setRow _ w8.heap.size _=w9
    have hst:=ou w8 ZL (ag q).toArray 51 w9 hWs.symm
    have HB9:=Lib.hid hst.2
    have QS:=Lib.hid hst.1
    have UZ:=Lib.hid (HS8.out.tq.below hst.2)
    have HP9:=Lib.hid (HP8.out.mono (aX HS8.out.tq.q.gI hst.2) (fun _ e=>e) (fun k hk=>Nat.lt_of_lt_of_le (HS8.out.tq.q.gI k hk) hst.2.size) (fun _ _ e=>e))
    clear hWs hst hp0
    skip
    rcases Hq.out with ⟨rfl,t8,R8,rfl,MK,U1,hcnt⟩ | ⟨rfl,rfl,rfl,hcnt⟩
    ·have HC8:=Lib.hid U1.cn
     have HF8:=Lib.hid U1.fr
     have HT9:=Lib.hid (MK.bU HS8.out.tq UZ.out (fun _ e=>e) HB9.out)
     have nl:(nf:Int)≤(lf:Int):=by have:=HNF.out; have:=ani.out; omega
     clear MK U1 hcnt Hq HS8 HB9
     have xy:=Lib.hid (lM aY aY UZ.out HT9.out (by rw [HC8.out]; have:=rP.out; omega))
     rw [HC8.out] at xy
     go_wp2_with fail
     refine xy.out.mono ?_
     rintro e wA ⟨vA,rfl,hvA,MO⟩
     rw [ny] at hvA
     obtain ⟨aA,cA,rfl,Ph⟩:=hvA.ks
     have Wq:=Lib.hid (UZ.out.below MO)
     have HTA:=Lib.hid (HT9.out.bU UZ.out Wq.out (fun _ e=>e) MO)
     have hpA:=HP9.out.mono (aX UZ.out.q.gI MO) (fun _ e=>e) Wq.out.q.gI (fun _ _ e=>e)
     have qM:=Lib.hid (o7 aA a5 cA c5 R5.cn wA Ph hpA.lm.kv (by have:=rP.out; omega))
     rw [xA.out] at qM
     rw [xA.out]
     have HFA:=Lib.hid (iZ HTA.out)
     rw [HF8.out] at HFA
     clear hvA MO hpA Ph xy
     have zr:wA.heap[X]? = some (.cells #[.pointer (some ⟨t5,0,none⟩),.slice a5 m5 c5] 34 (0,0)):=Wq.out.q.row 0 _ rfl
     have z0:=cell_of_row wA X 0 _ _ _ zr
     have z1:=cell_of_row wA X 1 _ _ _ zr
     clear zr
     go_wp2_with fail
     refine HFA.out.mono ?_
     rintro e wB ⟨rfl,hwB⟩
     subst wB
     clear HFA
     go_wp2_with fail
     refine qM.out.mono ?_
     rintro e wB ⟨rfl,hbB⟩
     have Xp:=Lib.hid ((Wq.out.below hbB).q.bel)
     clear hbB qM z0 z1
     go_wp2_with fail
     go_ret
     exact ⟨rfl,Xp.out⟩
    ·have HV9:=Lib.hid (HP9.out.mono (F':=F8) (ws':=ws8) (fun _ _=>rfl) (fun _ e=>e) UZ.out.q.gI (fun q nd e=>(DR e).elim))
     have nl:¬ ((nf:Int)≤(lf:Int)):=by have:=HNF.out; have:=ani.out; omega
     have xy:=Lib.hid (lM aY aY UZ.out HV9.out.tm (by have:=rP.out; omega))
     clear hcnt Hq HB9 HV9
     have zr:w9.heap[X]? = some (.cells #[.pointer (some ⟨t5,0,none⟩),.slice a5 m5 c5] 34 (0,0)):=UZ.out.q.row 0 _ rfl
     have z0:=cell_of_row w9 X 0 _ _ _ zr
     have z1:=cell_of_row w9 X 1 _ _ _ zr
     clear zr
     go_wp2_with fail
     refine xy.out.mono ?_
     rintro e wA ⟨vA,rfl,hvA,MO⟩
     rw [ny] at hvA
     obtain ⟨aA,cA,rfl,Ph⟩:=hvA.ks
     have HVA:=Lib.hid hvA
     have Wq:=Lib.hid (UZ.out.below MO)
     have HPA:=Lib.hid (HP9.out.mono (aX UZ.out.q.gI MO) (fun _ e=>e) Wq.out.q.gI (fun _ _ e=>e))
     have HRA:=Lib.hid ((MO.block _ (lt_of_block QS.out)).trans QS.out)
     have LY:=Lib.hid (eu ai wA)
     rw [show (ai.ad == 0)=true from rfl] at LY
     clear hvA MO Ph xy z0 z1 HP9 UZ
     go_wp2_with (first
      | (with_reducible refine jS (o:=⟨some 94,_,_,_,_,_⟩) (by kernel_rfl) 51 _ rfl w8.heap.size rfl 51 (ag ai).toArray (0,0) _ HRA.out Tryz.underlying51 rfl (bG ai) ?_))
     refine LY.out.mono ?_
     rintro e wB ⟨rfl,hbB⟩
     have HQB:=Lib.hid (Wq.out.below hbB)
     have HPB:=Lib.hid (HPA.out.mono (aX Wq.out.q.gI hbB) (fun _ e=>e) HQB.out.q.gI (fun _ _ e=>e))
     obtain ⟨aB,cB,eB,hkB⟩:=(HVA.out.below hbB).ks
     injection eB with e1 _ e2
     subst e1 e2
     have qM:=Lib.hid (o7 aA a5 cA c5 R5.cn wB hkB HPB.out.lm.kv (by have:=rP.out; omega))
     rw [xA.out] at qM
     rw [xA.out]
     clear hbB hkB LY HPA Wq HVA
     have zr:wB.heap[X]? = some (.cells #[.pointer (some ⟨t5,0,none⟩),.slice a5 m5 c5] 34 (0,0)):=HQB.out.q.row 0 _ rfl
     have z0:=cell_of_row wB X 0 _ _ _ zr
     have z1:=cell_of_row wB X 1 _ _ _ zr
     clear zr
     go_wp2_with fail
     refine qM.out.mono ?_
     rintro e wC ⟨rfl,hbC⟩
     have HQC:=Lib.hid (HQB.out.below hbC)
     have HPC:=Lib.hid (HPB.out.mono (aX HQB.out.q.gI hbC) (fun _ e=>e) HQC.out.q.gI (fun _ _ e=>e))
     clear hbC qM z0 z1 HPB HQB
     by_cases h62:62<nf
     ·have n6:(62:Int)<(nf:Int):=by omega
      clear h62
      go_wp2_with fail
      go_ret
      exact ⟨rfl,HQC.out.q.bel⟩
     ·have n6:¬ ((62:Int)<(nf:Int)):=by omega
      have HN6:=Lib.hid h62
      clear h62
      have hset:=V7 0 0 none [] HQC.out.q (aaS (OU.nil wC wC.heap.size) (fun x hx=>absurd hx (by simp)) rfl) (by omega) true ⟨fun _ x hx=>absurd hx (by simp),fun _=>rfl⟩
      rw [show Kw 64 F8 [] true=(0,dE 64) by unfold Kw; rw [if_pos rfl,NZ]] at hset
      have HST:=Lib.hid hset
      clear hset
      go_wp2_with fail
      refine HST.out.mono ?_
      rintro e wD ⟨rfl,hqD,htD⟩
      have HQD:=Lib.hid (TQ.mk hqD (by have h:=HQC.out.few; have h1:=cnt_le (dE 64) 64; have h2:=cnt_le F8 64; have:=QO.out; omega))
      have GI:=Lib.hid (HPC.out.mono (fun k hk=>htD.block k (HQC.out.q.gI k hk) (by simp only [List.mem_singleton]; rintro rfl; exact HQC.out.q.MR hk)) (fun _ e=>e) (fun k hk=>Nat.lt_of_lt_of_le (HQC.out.q.gI k hk) htD.size) (fun _ _ e=>e))
      have HVD:=Lib.hid (GI.out.mono (F':=dE 64) (ws':=ws8) (fun _ _=>rfl) (fun _ e=>e) HQD.out.q.gI (fun q nd e=>(DR e).elim))
      have xC:=Lib.hid (Aa HQD.out HVD.out.tm)
      clear hqD htD HST HPC HQC HVD
      have zr:wD.heap[X]? = some (.cells #[.pointer (some ⟨t5,0,none⟩),.slice a5 m5 c5] 34 (0,0)):=HQD.out.q.row 0 _ rfl
      have z0:=cell_of_row wD X 0 _ _ _ zr
      have z1:=cell_of_row wD X 1 _ _ _ zr
      clear zr
      go_wp2_with fail
      refine xC.out.mono ?_
      rintro e wE ⟨FE,wsE,ME,qE,er,tp,hsE,rfl,hres⟩
      have HQE:=Lib.hid hsE.tq
      have HPE:=Lib.hid (GI.out.mono hsE.st hsE.sub hsE.tq.q.gI (fun _ _ e=>e))
      have Hq:=Lib.hid hres
      clear hsE hres xC z0 z1
      rcases Hq.out with ⟨rfl,t8,R8,rfl,MK,U1,hcnt⟩ | ⟨rfl,rfl,rfl,hcnt⟩
      ·have HC8:=Lib.hid U1.cn
       have HF8:=Lib.hid U1.fr
       have HT9:=Lib.hid MK
       clear MK U1 hcnt Hq
       have xy:=Lib.hid (lM aY aY HQE.out HT9.out (by rw [HC8.out]; have:=rP.out; omega))
       rw [HC8.out] at xy
       go_wp2_with fail
       refine xy.out.mono ?_
       rintro e wA ⟨vA,rfl,hvA,MO⟩
       rw [ny] at hvA
       obtain ⟨aA,cA,rfl,Ph⟩:=hvA.ks
       have Wq:=Lib.hid (HQE.out.below MO)
       have HTA:=Lib.hid (HT9.out.bU HQE.out Wq.out (fun _ e=>e) MO)
       have hpA:=HPE.out.mono (aX HQE.out.q.gI MO) (fun _ e=>e) Wq.out.q.gI (fun _ _ e=>e)
       have qM:=Lib.hid (o7 aA a5 cA c5 R5.cn wA Ph hpA.lm.kv (by have:=rP.out; omega))
       rw [xA.out] at qM
       rw [xA.out]
       have HFA:=Lib.hid (iZ HTA.out)
       rw [HF8.out] at HFA
       clear hvA MO hpA Ph xy
       have zr:wA.heap[X]? = some (.cells #[.pointer (some ⟨t5,0,none⟩),.slice a5 m5 c5] 34 (0,0)):=Wq.out.q.row 0 _ rfl
       have z0:=cell_of_row wA X 0 _ _ _ zr
       have z1:=cell_of_row wA X 1 _ _ _ zr
       clear zr
       go_wp2_with fail
       refine HFA.out.mono ?_
       rintro e wB ⟨rfl,hwB⟩
       subst wB
       clear HFA
       go_wp2_with fail
       refine qM.out.mono ?_
       rintro e wB ⟨rfl,hbB⟩
       have Xp:=Lib.hid ((Wq.out.below hbB).q.bel)
       clear hbB qM z0 z1
       go_wp2_with fail
       go_ret
       exact ⟨rfl,Xp.out⟩
      ·have h:=Qy 64 (by decide)
       rw [h,HNF.out] at hcnt
       have:=HN6.out
       omega
set_option maxRecDepth 100000 in
theorem lifted (os:Os)(started:os.Started)(H:Type)(enc:TypeId×Value→H) :
 ReturnsInHanded {} Tryz.checked os 5 .any (fun w args=>(Rows.treeFullSpec.pre enc Tryz.prog Tryz.f5 [] false w args∧laidMetH Tryz.prog [("banyan/sha.roundNumbers",Rows.laid_banyan_sha_roundNumbers),("math/bits.deBruijn64tab",Rows.laid_math_bits_deBruijn64tab)] w)∧sizedMet enc Tryz.prog Tryz.f5 (OpenSpec.ofChange Rows.treeFullSpec) false w args)
  (Rows.treeFullSpec.post enc Tryz.prog Tryz.f5 false true false false):=by
 refine returnsInHanded_of_change_and (C:=Tryz.checked) (X:=fun w _=>laidMetH Tryz.prog [("banyan/sha.roundNumbers",Rows.laid_banyan_sha_roundNumbers),("math/bits.deBruijn64tab",Rows.laid_math_bits_deBruijn64tab)] w) (fun _ _ _ hh h=>h.of_heap hh) ahn started (by kernel_rfl) Tryz.func5
  (ChangeSpec.witness_shaped (enc:=enc) (C:=Tryz.checked) (os:=os) (X:=fun w _=>laidMetH Tryz.prog [("banyan/sha.roundNumbers",Rows.laid_banyan_sha_roundNumbers),("math/bits.deBruijn64tab",Rows.laid_math_bits_deBruijn64tab)] w) false (World.doorLaid Tryz.prog 400 os) #[.slice none 0 0,.int .u8 0] 8 rfl (World.shaped_of_RefB (by kernel_rfl) (by kernel_rfl)) (by kernel_rfl) (by kernel_rfl) (by kernel_rfl) (AL os _)) ?_
 intro W base args ds gs before hval0 hW _ hsz0 hL _
 have hval:∀ (j:Nat) t v,Tryz.f5.params[j]? = some t→args[j]? = some v→Value.okWide Tryz.prog W .any base t v:=hval0
 have hsz:(DataW.weightsEach Tryz.prog (Tryz.f5.params.toList++Rows.treeFullSpec.plain.varTypes Tryz.prog) (ds++gs)).all (· ≤ reachBytes)=true:=hsz0
 clear hsz0
 have hW':=hW
 obtain ⟨p,q,hA0,hV,rfl,hfz,hnd⟩:=hW
 have hA:DataW.TrodAll enc Tryz.prog W 0 (fun _=>true) true Tryz.f5.params.toList args.toList ds p:=hA0
 rw [Tryz.params5] at hA hval hsz
 obtain ⟨v0,vs0,d0,ds0,p0,q0,hargs,rfl,rfl,h0,r0⟩:=trodAll_cons hA
 obtain ⟨v1,vs1,d1,ds1,p1,q1,rfl,rfl,rfl,h1,r1⟩:=trodAll_cons r0
 obtain ⟨rfl,rfl,rfl⟩:=trodAll_nil r1
 obtain rfl:args=#[v0,v1]:=by cases args; simp_all
 obtain ⟨rfl,rfl⟩:=trodVars_none hV
 have k0:=h0
 have lt0:∀ x ∈ p0,x.block<W.heap.size:=by obtain ⟨m,hm⟩:=k0; exact DataW.trod_lt m _ _ _ hm
 have k1:=h1
 have lt1:∀ x ∈ p1,x.block<W.heap.size:=by obtain ⟨m,hm⟩:=k1; exact DataW.trod_lt m _ _ _ hm
 obtain ⟨x0,a0,len0,cap0,rfl,sl0⟩:=Iw (j:=0) Tryz.underlying22 yJ (hval 0 22 v0 rfl rfl) h0 hsz rfl rfl
 obtain ⟨z1,rfl,za1,zb1⟩:=aeu (j:=1) .u8 _ _ Tryz.underlying5 wf_u8 (hval 1 5 v1 rfl rfl) h1 hsz rfl rfl
 have hKT:=rX hL
 clear hA0 hval0
 refine (walk W a0 len0 cap0 x0 sl0 z1 za1 zb1 hKT.1 hKT.2).mono fun e W' ⟨he,bel⟩=>?_
 subst he
 exact ⟨_,rfl,_,_,_, [],_, [],hW',trodAll_mk1 (shut_bool Tryz.underlying4 _),(trodAll_cons_mk (Below.trod yT (by kernel_rfl) (of_decide_eq_true (by kernel_rfl)) k0 bel lt0) (trodAll_cons_mk (Below.trod yT (by kernel_rfl) (of_decide_eq_true (by kernel_rfl)) k1 bel lt1) trodAll_mk0)),rfl,bel.frame _,fun h=>by cases h⟩

theorem over:Rows.TreeFullSaid :=
 OpenClaim.holds_of_wide 5 Tryz.f5 rfl rfl rfl rfl rfl rfl rfl ⟨rfl,rfl,rfl,rfl,rfl⟩ rfl rfl rfl rfl rfl (by kernel_rfl) Tryz.func5 (by kernel_rfl)
  (of_decide_eq_true (by kernel_rfl)) (by unfold Func.isWrapper; first | (rw [if_pos (by decide +kernel)]; kernel_rfl) | (rw [if_neg (by decide +kernel)]; exact ⟨rfl,rfl⟩))
  (fun os started H enc _=>lifted os started H enc)

/-- The statement. -/
theorem proved:Rows.TreeFullCardSaid :=
 Claim7.holds_tied_plain_at .later [] [.data,.data] true (true, "9ad3d20c50d472851ffdac8307fffc9beef33574a5a2d28b2fee6535d13e0c7f") false
  over (fun _ h=>by cases h) (by kernel_rfl) (fun _ h=>by cases h) treeFull_row_tie rfl ⟨rfl,rfl⟩ (by kernel_rfl) rfl
  (fun f fn hf hfn=>by
    obtain rfl:f=5:=Option.some.inj ((show Tryz.prog.funcNamed "banyan/banyanlaw14.TreeFull" = some 5 by kernel_rfl).symm.trans hf) |>.symm
    obtain rfl:fn=Tryz.f5:=(Option.some.inj (Tryz.func5.symm.trans hfn)).symm
    exact ⟨by kernel_rfl,fun j t ht=>by
     rw [Tryz.params5] at ht
     have hm:t ∈ [22,5]:=by simpa using Array.mem_of_getElem? ht
     have hall:([22,5].all fun u => !Tryz.prog.wantsStandIn u)=true:=by kernel_rfl
     exact (show Tryz.prog.wantsStandIn t=false by simpa using List.all_eq_true.1 hall t hm)⟩)
  (by kernel_rfl)
#print axioms proved
end Go.Proofs.YtljjcbmkbmloaaaGreatDoor.treeFull
