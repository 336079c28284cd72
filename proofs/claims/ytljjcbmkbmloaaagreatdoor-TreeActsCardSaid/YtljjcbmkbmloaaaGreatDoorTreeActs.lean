/-
  'TreeActs' returns true at every input, and each argument reads behind the call as it read before. Conditions: the package-level variable that the row lists starts as the program's text lays it (the card ties that).
-/
import Derived.Test.YtljjcbmkbmloaaaGreatDoorGTr10
import Derived.Test.YtljjcbmkbmloaaaGreatDoorCards
import Derived.Test.YtljjcbmkbmloaaaGreatDoorTie
import Derived.Test.YtljjcbmkbmloaaaGreatDoorGTr49
namespace Go.Proofs.YtljjcbmkbmloaaaGreatDoor.treeActs
open Go.ChangeShapes Go.WideShapes Go.ChangeAt Go.RowKit
set_option linter.unusedVariables false


set_option maxRecDepth 100000 in
set_option maxHeartbeats 6400000 in
theorem walk (w:World)(a0:Option Addr)(len0 cap0:Nat)(x0:List kC)(sl0:SlR CQ 4 w x0 a0 len0 cap0)(hK:KT w)(hT:TZ w) :
 Calls Tryz.prog 3 #[.slice a0 len0 cap0] w fun e w'=>e = .returned (.bool true)∧Below w.heap.size w w':=by
 have HA:=Lib.hid (vT w hK hT)
 have QN:=Lib.hid (And.intro hK hT)
 obtain ⟨hat,hok⟩:=ady sl0
 have HLEN:=Lib.hid sl0.len
 have HCAP:=Lib.hid (And.intro sl0.cap sl0.big)
 have HAT:=Lib.hid hat
 have pG:=Lib.hid hok
 clear sl0 hat hok
 clear hK hT
 go_enter Tryz.func3,Tryz.ntmps3
 go_wp2_with fail
 refine HA.out.mono ?_
 rintro e w1 ⟨rfl,hb1⟩
 have HB1:=Lib.hid hb1
 clear hb1 HA
 have QT:=Lib.hid (MF a0 cap0 x0 w1 (HAT.out.below HB1.out) pG.out (by rw [HLEN.out]; exact Nat.le_trans HCAP.out.1 HCAP.out.2))
 rw [HLEN.out] at QT
 go_wp2_with fail
 refine QT.out.mono ?_
 rintro e w3 ⟨hg,hb3⟩
 have HB3:=Lib.hid (aK HB1.out hb3)
 clear hb3 QT HB1
 rcases hg with rfl | ⟨rfl,hg1,hg2⟩
 ·go_wp2_with fail
  go_ret
  exact ⟨rfl,HB3.out⟩
 ·have VI:=Lib.hid (And.intro hg1 hg2)
  clear hg1 hg2
  have QU:=Lib.hid (DN w w3 1024 QN.out.1 QN.out.2 HB3.out (by decide) (by decide))
  go_wp2_with fail
  refine QU.out.mono ?_
  rintro e w4 ⟨t,P,D,gl,M4,rfl,hq4,MP,_⟩
  have mQ:=Lib.hid hq4
  have HT4:=Lib.hid MP
  clear hq4 MP QU
  have hlk:=fun (u v:Value) (W:World)=>aje u v W
  have LI:=Lib.hid (show len0≤150 by have:=VI.out.1; have:=HLEN.out; omega)
  have lI:(len0:Int)≤150:=by have:=LI.out; omega
  have HI0:=Lib.hid (Zm mQ.out HT4.out rfl)
  go_upto_region 10 with fail
  generalize hw6:World.alloc (World.alloc w4 _) _=w6
  have anf:(w4.alloc (.cells (gu t none 0 0) 34)).alloc (.cells (gu t none 0 0) 34)=w6:=by rw [← hw6]; rfl
  rw [anf] at HI0
  clear hw6 anf
  generalize w4.heap.size=X at *
  go_wp2_with fail
  go_loopw [8,10,11,12,36] (fun v8 _ _ _ v36 wr=>∃ (i:Nat) (F:Nat→Bool) (ws:List (Nat×List (BitVec 8))) (M:List Nat) (g c k:Nat) (Q:List kR) (x:kR) (m:Nat),i≤len0∧v36 = .int .i64 (i:Int)∧v8 = .slice (some ⟨g,0,none⟩) k c∧Q.length=k∧Wp w wr P D gl 1024 (az (1024 * 512)) F ws M X g c Q x m i) (fun _ _ _ _ v _=>len0 - (intOf v).toNat)
  case atStart=>exact ⟨0,_,_,_,_,_,1,_,_,_,Nat.zero_le _,rfl,rfl,rfl,HI0.out⟩
  case round =>
   obtain ⟨i,F,ws,M,g,c,k,Q,x,m,hi,rfl,rfl,hk,hac⟩:=hrel
   have HI:=Lib.hid hac
   have HK:=Lib.hid hk
   clear hac hk HI0
   by_cases hlt:i<len0
   ·obtain ⟨q,hq⟩:∃ q,x0[i]? = some q:=⟨_,List.getElem?_eq_getElem (by rw [HLEN.out]; exact hlt)⟩
    obtain ⟨C0,hC0⟩:=HI.out.tq
    obtain ⟨b,off,rfl,hrg⟩:=(HAT.out.below hC0.q.bel).at_ i q hq
    obtain ⟨c0,c1,c2,c3⟩:=wV hrg
    have hix:=qo b off len0 cap0 i hlt
    have bz:=Lib.hid hlt
    have hqm:=List.mem_of_getElem? hq
    have HSQ:=Lib.hid (VI.out.2 q hqm)
    have HOQ:=Lib.hid (pG.out q hqm)
    have iI:(i:Int)<(len0:Int):=by omega
    have i0:(0:Int)≤(i:Int):=by omega
    have kI:(k:Int)≤151∧(0:Int)<(k:Int):=by have:=HI.out.qn; have:=HI.out.q0; have:=HK.out; have:=LI.out; omega
    obtain ⟨kI,kI0⟩:=kI
    clear hi hlt hq hrg hqm hC0
    obtain ⟨kd,nn,ky,vl⟩:=q
    dsimp only at c0 c1 c2 c3
    go_upto_region 13 with fail
    generalize hwi:World.alloc wr (.cells #[.int .i64 kd,.int .i64 nn,.string ky,.string vl] 37)=wi
    have hbi:=aJ wr (.cells #[.int .i64 kd,.int .i64 nn,.string ky,.string vl] 37)
    have hni:=ah wr (.cells #[.int .i64 kd,.int .i64 nn,.string ky,.string vl] 37)
    rw [hwi] at hbi hni
    have HGI:=Lib.hid (HI.out.below hbi)
    have i00:=cell_of_row wi wr.heap.size 0 _ _ _ hni
    have i01:=cell_of_row wi wr.heap.size 1 _ _ _ hni
    have i02:=cell_of_row wi wr.heap.size 2 _ _ _ hni
    have i03:=cell_of_row wi wr.heap.size 3 _ _ _ hni
    obtain ⟨C,hC⟩:=HGI.out.tq
    have HC:=Lib.hid hC
    have yj:wi.heap[X]? = some (.cells #[.pointer (some ⟨x.1,0,none⟩),.slice x.2.2.1 m x.2.2.2] 34 (0,0)):=hC.q.row 0 _ rfl
    have p0:=cell_of_row wi X 0 _ _ _ yj
    have p1:=cell_of_row wi X 1 _ _ _ yj
    have f0:=frozen_of_row wi X 0 _ _ yj
    have f1:=frozen_of_row wi X 1 _ _ yj
    clear hwi hbi hni c0 c1 c2 c3 hix hC yj
    by_cases hkd:kd=6
    ·subst hkd
     have hjx:∃ j:Nat,max 0 (wrap64 ((k:Int) - 1 - max 0 (Int.tmod nn (k:Int))))=(j:Int)∧j<k:=by
      have h1:Int.tmod nn (k:Int)<(k:Int):=Int.tmod_lt_of_pos nn kI0
      have hw:wrap64 ((k:Int) - 1 - max 0 (Int.tmod nn (k:Int)))=(k:Int) - 1 - max 0 (Int.tmod nn (k:Int)):=by unfold wrap64; omega
      exact ⟨((k:Int) - 1 - max 0 (Int.tmod nn (k:Int))).toNat,by rw [hw]; omega,by omega⟩
     obtain ⟨j,hj,hjk⟩:=hjx
     obtain ⟨y,hy⟩:∃ y,Q[j]? = some y:=⟨_,List.getElem?_eq_getElem (by rw [HK.out]; exact hjk)⟩
     have hyc:=HGI.out.own.at_ j y hy
     have q0:=hyc.1
     have q1:=hyc.2
     have hyp:=HGI.out.all y (List.mem_of_getElem? hy)
     obtain ⟨yt,yR,ya,yc⟩:=y
     obtain ⟨ym,hym⟩:∃ z,yR.cn.length=z:=⟨_,rfl⟩
     have HYM:=Lib.hid hym
     dsimp only at q0 q1
     rw [hym] at q1
     have hnx:=HGI.out.set (i':=i+1) (yt,yR,ya,yc) hyp.1 (by have:=hyp.2; omega) (Nat.le_succ i) rfl
     dsimp only at hnx
     rw [hym] at hnx
     have uF:=Lib.hid hnx
     have hix:=JF g 0 k c j hjk
     rw [Nat.zero_add] at hix
     clear i02 i03 hy hyc hyp hnx hjk hym HC
     go_wp2_with fail
     go_roundw
     case rel=>exact ⟨i+1,F,ws,M,g,c,k,Q,_,_,by have:=bz.out; omega,by go_num,rfl,HK.out,uF.out⟩
     case measure=>simp [intOf]; have:=bz.out; omega
    ·have kdI:(kd == 6)=false:=by simp [hkd]
     have kdJ:decide (kd=6)=false:=by simp [hkd]
     have HD:=Lib.hid (adJ w wi P D gl 1024 _ F ws _ M x.1 x.2.1 x.2.2.1 x.2.2.2 ⟨kd,nn,ky,vl⟩ HC.out HGI.out.pmx (by have:=HGI.out.lx; have:=bz.out; have:=LI.out; omega) (by have:=HSQ.out.1; dsimp only at this ⊢; omega) (by have:=HSQ.out.2; dsimp only at this ⊢; omega))
     rw [HGI.out.mx] at HD
     go_wp2_with fail
     refine HD.out.mono ?_
     rintro e w5 ⟨F5,vS,M5,t5,R5,a5,c5,hs5,hp5,rfl,hn5,_⟩
     have HI5:=Lib.hid (HGI.out.did HC.out hs5)
     have GM:=Lib.hid hp5
     have Hg:=Lib.hid (show R5.cn.length≤i+1 by have:=HGI.out.lx; omega)
     obtain ⟨m5,pJ⟩:∃ z,R5.cn.length=z:=⟨_,rfl⟩
     have xA:=Lib.hid pJ
     rw [pJ]
     clear hs5 hp5 hn5 pJ HD p0 p1 f0 f1 i00 i01 i02 i03 HC
     go_upto_region 16 with fail
     generalize hw6:World.alloc w5 (.cells #[.pointer (some ⟨t5,0,none⟩),.slice a5 m5 c5] 34)=w6
     have hb6:=aJ w5 (.cells #[.pointer (some ⟨t5,0,none⟩),.slice a5 m5 c5] 34)
     have Hy:=ah w5 (.cells #[.pointer (some ⟨t5,0,none⟩),.slice a5 m5 c5] 34)
     rw [hw6] at hb6 Hy
     have HI6:=Lib.hid (HI5.out.below hb6)
     obtain ⟨C5,Oa⟩:=HI5.out.tq
     obtain ⟨C6,hC6⟩:=HI6.out.tq
     have hp6:=GM.out.mono (aX Oa.q.gI hb6) (fun _ e=>e) (fun k hk=>Nat.lt_of_lt_of_le (Oa.q.gI k hk) hb6.size) (fun _ _ e=>e)
     have hs7:=HI6.out.set (i':=i+1) (t5,R5,a5,c5) hp6 Hg.out (Nat.le_succ i) rfl
     dsimp only at hs7
     rw [xA.out] at hs7
     have QW:=Lib.hid hs7
     have x0:=cell_of_row w6 w5.heap.size 0 _ _ _ Hy
     have x1:=cell_of_row w6 w5.heap.size 1 _ _ _ Hy
     have yj:w6.heap[X]? = some (.cells #[.pointer (some ⟨x.1,0,none⟩),.slice x.2.2.1 m x.2.2.2] 34 (0,0)):=hC6.q.row 0 _ rfl
     have p0:=cell_of_row w6 X 0 _ _ _ yj
     have p1:=cell_of_row w6 X 1 _ _ _ yj
     have f0:=frozen_of_row w6 X 0 _ _ yj
     have f1:=frozen_of_row w6 X 1 _ _ yj
     clear hw6 hb6 Hy Oa hC6 hp6 hs7 yj GM HI5 HGI
     go_upto_region 19 with fail
     generalize hw7:World.setCell (World.setCell w6 _ _) _ _=w7
     rw [hw7] at QW
     obtain ⟨C7,hC7⟩:=QW.out.tq
     have Qe:w7.heap[X]? = some (.cells #[.pointer (some ⟨t5,0,none⟩),.slice a5 m5 c5] 34 (0,0)):=hC7.q.row 0 _ rfl
     have p0:=cell_of_row w7 X 0 _ _ _ Qe
     have p1:=cell_of_row w7 X 1 _ _ _ Qe
     have hrw:Ig (t5,R5,a5,c5)=[.pointer (some ⟨t5,0,none⟩),.slice a5 m5 c5]:=by simp only [Ig,xA.out]
     have hpu:=(QW.out.below (aJ w7 (.cells #[.pointer (some ⟨t5,0,none⟩),.slice a5 m5 c5] 34))).push w7.heap.size (fun j y hy=>cO (cs:=[.pointer (some ⟨t5,0,none⟩),.slice a5 m5 c5]) (ah w7 _) j y (by rw [← hrw]; exact hy)) (by have:=HI.out.qn; have:=LI.out; have:=bz.out; omega) 35
     rw [HK.out] at hpu
     have HPU:=Lib.hid hpu
     clear hw7 hC7 Qe hrw hpu x0 x1 f0 f1 HI6
     go_wp2_with (first
      | (at_builtin; obtain ⟨g9,c9,w9,hr9,ho9⟩:=HPU.out; refine aV _ rfl _ _ 35 35 rfl _ _ rfl rfl hr9 ?_; have Vx:=Lib.hid (ho9 (i+1) (Nat.le_refl _) (by have:=HI.out.qn; have:=HK.out; omega)); clear ho9 hr9 HPU))
     go_roundw
     case rel=>exact ⟨i+1,F5,vS,M5,g9,c9,k+1,_,_,_,by have:=bz.out; omega,by go_num,rfl,by rw [List.length_append,HK.out]; rfl,Vx.out⟩
     case measure=>simp [intOf]; have:=bz.out; omega
   ·obtain rfl:len0=i:=by omega
    have kI:(k:Int)≤151:=by have:=HI.out.qn; have:=HK.out; have:=LI.out; omega
    clear hi hlt
    go_wp2_with fail
    go_loopw [14,15,16,74] (fun _ _ _ v74 wz=>∃ j:Nat,j≤k∧v74 = .int .i64 (j:Int)∧Below wr.heap.size wr wz) (fun _ _ _ v _=>k - (intOf v).toNat)
    case atStart=>exact ⟨0,Nat.zero_le _,rfl,Below.refl _ _⟩
    case round =>
     obtain ⟨j,hj,rfl,hbz⟩:=hrel
     have HBZ:=Lib.hid hbz
     have HZ:=Lib.hid (HI.out.below hbz)
     clear hbz
     by_cases hjk:j<k
     ·obtain ⟨y,hy⟩:∃ y,Q[j]? = some y:=⟨_,List.getElem?_eq_getElem (by rw [HK.out]; exact hjk)⟩
      have hyc:=HZ.out.own.at_ j y hy
      have q0:=hyc.1
      have q1:=hyc.2
      have hyp:=HZ.out.all y (List.mem_of_getElem? hy)
      obtain ⟨yt,yR,ya,yc⟩:=y
      obtain ⟨ym,hym⟩:∃ z,yR.cn.length=z:=⟨_,rfl⟩
      have HYM:=Lib.hid hym
      dsimp only at q0 q1 hyp
      rw [hym] at q1
      have hix:=JF g 0 k c j hjk
      rw [Nat.zero_add] at hix
      have HJK:=Lib.hid hjk
      obtain ⟨C,hC⟩:=HZ.out.tq
      have jI:(j:Int)<(k:Int):=by omega
      have j0:(0:Int)≤(j:Int):=by omega
      have HYL:=Lib.hid (show yR.cn.length≤1000 by have:=hyp.2; have:=LI.out; omega)
      have hbi:=aJ wr (.cells #[.pointer (some ⟨yt,0,none⟩),.slice ya ym yc] 34)
      have hni:=ah wr (.cells #[.pointer (some ⟨yt,0,none⟩),.slice ya ym yc] 34)
      have HPM:=Lib.hid (hyp.1.bU hC (hC.below hbi) (fun _ e=>e) hbi)
      have HCI:=Lib.hid (hC.below hbi)
      have HBI:=Lib.hid hbi
      have y0:=cell_of_row _ wr.heap.size 0 _ _ _ hni
      have y1:=cell_of_row _ wr.heap.size 1 _ _ _ hni
      clear hj hjk hy hyc hyp hym hC hbi hni
      go_upto_region 24 with fail
      generalize ap0:World.alloc wr (.cells #[.pointer (some ⟨yt,0,none⟩),.slice ya ym yc] 34)=w10 at *
      have xy:=Lib.hid (lM aY aY HCI.out HPM.out.tm HYL.out)
      go_wp2_with fail
      refine xy.out.mono ?_
      rintro e w11 ⟨vA,rfl,hvA,QK⟩
      rw [ny] at hvA
      have y2:=ae y1 (QK.block _ (block_lt_of_cell y1))
      have U0:=Lib.hid (aK HBI.out QK)
      have ang:=HPM.out.bU HCI.out (HCI.out.below QK) (fun _ e=>e) QK
      obtain ⟨aA,cA,rfl,Ph⟩:=hvA.ks
      have qM:=Lib.hid (o7 aA ya cA yc yR.cn w11 Ph ang.lm.kv (by have:=HYL.out; omega))
      rw [HYM.out] at qM
      rw [HYM.out]
      clear hvA QK ang xy y0 y1 q0 q1 hix ap0
      go_wp2_with fail
      refine qM.out.mono ?_
      rintro e w12 ⟨rfl,Zj⟩
      have aft:=Lib.hid (aK U0.out Zj)
      clear Zj qM y2
      go_wp2_with fail
      go_roundw
      case rel=>exact ⟨j+1,by have:=HJK.out; omega,by go_num,aK HBZ.out aft.out⟩
      case measure=>simp [intOf]; have:=HJK.out; omega
     ·obtain rfl:k=j:=by omega
      obtain ⟨C,hC⟩:=HZ.out.tq
      have HF:=Lib.hid hC.q.bel
      clear hj hjk hC
      go_wp2_with fail
      go_ret
      exact ⟨rfl,HF.out⟩
set_option maxRecDepth 100000 in
theorem lifted (os:Os)(started:os.Started)(H:Type)(enc:TypeId×Value→H) :
 ReturnsInHanded {} Tryz.checked os 3 .any (fun w args=>(Rows.treeActsSpec.pre enc Tryz.prog Tryz.f3 [] false w args∧laidMetH Tryz.prog [("banyan/sha.roundNumbers",Rows.laid_banyan_sha_roundNumbers),("math/bits.deBruijn64tab",Rows.laid_math_bits_deBruijn64tab)] w)∧sizedMet enc Tryz.prog Tryz.f3 (OpenSpec.ofChange Rows.treeActsSpec) false w args)
  (Rows.treeActsSpec.post enc Tryz.prog Tryz.f3 false true false false):=by
 refine returnsInHanded_of_change_and (C:=Tryz.checked) (X:=fun w _=>laidMetH Tryz.prog [("banyan/sha.roundNumbers",Rows.laid_banyan_sha_roundNumbers),("math/bits.deBruijn64tab",Rows.laid_math_bits_deBruijn64tab)] w) (fun _ _ _ hh h=>h.of_heap hh) ahn started (by kernel_rfl) Tryz.func3
  (ChangeSpec.witness_shaped (enc:=enc) (C:=Tryz.checked) (os:=os) (X:=fun w _=>laidMetH Tryz.prog [("banyan/sha.roundNumbers",Rows.laid_banyan_sha_roundNumbers),("math/bits.deBruijn64tab",Rows.laid_math_bits_deBruijn64tab)] w) false (World.doorLaid Tryz.prog 400 os) #[.slice none 0 0] 8 rfl (World.shaped_of_RefB (by kernel_rfl) (by kernel_rfl)) (by kernel_rfl) (by kernel_rfl) (by kernel_rfl) (AL os _)) ?_
 intro W base args ds gs before hval0 hW _ hsz0 hL _
 have hval:∀ (j:Nat) t v,Tryz.f3.params[j]? = some t→args[j]? = some v→Value.okWide Tryz.prog W .any base t v:=hval0
 have hsz:(DataW.weightsEach Tryz.prog (Tryz.f3.params.toList++Rows.treeActsSpec.plain.varTypes Tryz.prog) (ds++gs)).all (· ≤ reachBytes)=true:=hsz0
 clear hsz0
 have hW':=hW
 obtain ⟨p,q,hA0,hV,rfl,hfz,hnd⟩:=hW
 have hA:DataW.TrodAll enc Tryz.prog W 0 (fun _=>true) true Tryz.f3.params.toList args.toList ds p:=hA0
 rw [Tryz.params3] at hA hval hsz
 obtain ⟨v0,vs0,d0,ds0,p0,q0,hargs,rfl,rfl,h0,r0⟩:=trodAll_cons hA
 obtain ⟨rfl,rfl,rfl⟩:=trodAll_nil r0
 obtain rfl:args=#[v0]:=by cases args; simp_all
 obtain ⟨rfl,rfl⟩:=trodVars_none hV
 have k0:=h0
 have lt0:∀ x ∈ p0,x.block<W.heap.size:=by obtain ⟨m,hm⟩:=k0; exact DataW.trod_lt m _ _ _ hm
 obtain ⟨x0,a0,len0,cap0,rfl,sl0⟩:=Iw (j:=0) Tryz.underlying22 yJ (hval 0 22 v0 rfl rfl) h0 hsz rfl rfl
 have hKT:=rX hL
 clear hA0 hval0
 refine (walk W a0 len0 cap0 x0 sl0 hKT.1 hKT.2).mono fun e W' ⟨he,bel⟩=>?_
 subst he
 exact ⟨_,rfl,_,_,_, [],_, [],hW',trodAll_mk1 (shut_bool Tryz.underlying4 _),(trodAll_cons_mk (Below.trod yT (by kernel_rfl) (of_decide_eq_true (by kernel_rfl)) k0 bel lt0) trodAll_mk0),rfl,bel.frame _,fun h=>by cases h⟩

theorem over:Rows.TreeActsSaid :=
 OpenClaim.holds_of_wide 3 Tryz.f3 rfl rfl rfl rfl rfl rfl rfl ⟨rfl,rfl,rfl,rfl,rfl⟩ rfl rfl rfl rfl rfl (by kernel_rfl) Tryz.func3 (by kernel_rfl)
  (of_decide_eq_true (by kernel_rfl)) (by unfold Func.isWrapper; first | (rw [if_pos (by decide +kernel)]; kernel_rfl) | (rw [if_neg (by decide +kernel)]; exact ⟨rfl,rfl⟩))
  (fun os started H enc _=>lifted os started H enc)

/-- The statement. -/
theorem proved:Rows.TreeActsCardSaid :=
 Claim7.holds_tied_plain_at .later [] [.data,.data] true (true, "9ad3d20c50d472851ffdac8307fffc9beef33574a5a2d28b2fee6535d13e0c7f") false
  over (fun _ h=>by cases h) (by kernel_rfl) (fun _ h=>by cases h) treeActs_row_tie rfl ⟨rfl,rfl⟩ (by kernel_rfl) rfl
  (fun f fn hf hfn=>by
    obtain rfl:f=3:=Option.some.inj ((show Tryz.prog.funcNamed "banyan/banyanlaw14.TreeActs" = some 3 by kernel_rfl).symm.trans hf) |>.symm
    obtain rfl:fn=Tryz.f3:=(Option.some.inj (Tryz.func3.symm.trans hfn)).symm
    exact ⟨by kernel_rfl,fun j t ht=>by
     rw [Tryz.params3] at ht
     have hm:t ∈ [22]:=by simpa using Array.mem_of_getElem? ht
     have hall:([22].all fun u => !Tryz.prog.wantsStandIn u)=true:=by kernel_rfl
     exact (show Tryz.prog.wantsStandIn t=false by simpa using List.all_eq_true.1 hall t hm)⟩)
  (by kernel_rfl)
#print axioms proved
end Go.Proofs.YtljjcbmkbmloaaaGreatDoor.treeActs
