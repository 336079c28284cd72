/-
  'TreeNodes' returns true at every input, and each argument reads behind the call as it read before. Conditions: the package-level variable that the row lists starts as the program's text lays it (the card ties that).
-/
import Derived.Test.YtljjcbmkbmloaaaGreatDoorGTu10
import Derived.Test.YtljjcbmkbmloaaaGreatDoorCards
import Derived.Test.YtljjcbmkbmloaaaGreatDoorTie
import Derived.Test.YtljjcbmkbmloaaaGreatDoorGTu49
namespace Go.Proofs.YtljjcbmkbmloaaaGreatDoor.treeNodes
open Go.ChangeShapes Go.WideShapes Go.ChangeAt Go.RowKit
set_option linter.unusedVariables false
set_option maxRecDepth 100000 in
set_option maxHeartbeats 6400000 in
theorem walk (w:World)(a0:Option Addr)(len0 cap0:Nat)(x0:List dh)(sl0:SlR QY 4 w x0 a0 len0 cap0)(hK:KT w)(hT:TZ w) :
 Calls Tryz.prog 4 #[.slice a0 len0 cap0] w fun e w'=>e = .returned (.bool true)∧Below w.heap.size w w':=by
 have HA:=Lib.hid (Dl w hK hT)
 have RG:=Lib.hid (And.intro hK hT)
 obtain ⟨hat,hok⟩:=ahz sl0
 have HLEN:=Lib.hid sl0.len
 have HCAP:=Lib.hid (And.intro sl0.cap sl0.big)
 have HAT:=Lib.hid hat
 have qP:=Lib.hid hok
 clear sl0 hat hok
 clear hK hT
 go_in
 go_wp2_with fail
 refine HA.out.mono ?_
 rintro e w1 ⟨rfl,hb1⟩
 have HB1:=Lib.hid hb1
 clear hb1 HA
 have ZX:=Lib.hid (WJ a0 cap0 x0 w1 (HAT.out.below HB1.out) qP.out (by rw [HLEN.out]; exact Nat.le_trans HCAP.out.1 HCAP.out.2))
 rw [HLEN.out] at ZX
 go_wp2_with fail
 refine ZX.out.mono ?_
 rintro e w3 ⟨hg,hb3⟩
 have HB3:=Lib.hid (aJ HB1.out hb3)
 clear hb3 ZX HB1
 rcases hg with rfl | ⟨rfl,hg1,hg2⟩
 ·go_wp2_with fail
  go_ret;exact ⟨rfl,HB3.out⟩
 ·have YC:=Lib.hid (And.intro hg1 hg2)
  clear hg1 hg2;have YB:=Lib.hid (Ns w w3 1024 RG.out.1 RG.out.2 HB3.out (by decide) (by decide));go_wp2_with fail;refine YB.out.mono ?_;rintro e w4 ⟨t,P,D,gl,M4,rfl,hq4,UG,_⟩;have nC:=Lib.hid hq4;have HT4:=Lib.hid UG;clear hq4 UG YB;have HGW:=Lib.hid (agz w w4 P D gl 1024 _ _ _ [] M4 t a0 cap0 x0 nC.out HT4.out HAT.out YC.out.1 YC.out.2 qP.out);rw [HLEN.out] at HGW;go_wp2_with fail;refine HGW.out.mono ?_;rintro e w5 ⟨M5,t5,R5,a5,c5,hs5,hp5,rfl,hl5⟩;have nT:=Lib.hid hs5;have RH:=Lib.hid hp5;have CP:=Lib.hid (show R5.cn.length≤150 by have:=YC.out.1; have:=HLEN.out; omega);obtain ⟨m5,uC⟩:∃ z,R5.cn.length=z:=⟨_,rfl⟩
  have IJ:=Lib.hid uC;rw [uC];clear hs5 hp5 hl5 uC HGW;go_upto_region 11 with fail
  generalize hw6:World.alloc w5 (.cells #[.pointer (some ⟨t5,0,none⟩),.slice a5 m5 c5] 34)=w6;have hb6:=aK w5 (.cells #[.pointer (some ⟨t5,0,none⟩),.slice a5 m5 c5] 34);have U5:=ah w5 (.cells #[.pointer (some ⟨t5,0,none⟩),.slice a5 m5 c5] 34);rw [hw6] at hb6 U5;have kR:=Lib.hid (TQ.mk (nT.out.tq.q.add hb6 w5.heap.size _ _ (Nat.le_refl _) U5) nT.out.tq.few);have U3:=Lib.hid (RH.out.mono (aX nT.out.tq.q.jY hb6) (fun _ e=>e) (fun k hk=>Nat.lt_of_lt_of_le (nT.out.tq.q.jY k hk) hb6.size) (fun _ _ e=>e));clear hw6 hb6 U5 nC HT4 nT RH;generalize w5.heap.size=X at *;have pr:w6.heap[X]? = some (.cells #[.pointer (some ⟨t5,0,none⟩),.slice a5 m5 c5] 34 (0,0)):=kR.out.q.row 0 _ rfl;have p0:=cell_of_row w6 X 0 _ _ _ pr;clear pr;have xO:=Lib.hid (Af kR.out U3.out.tm);have hp0:=dF;obtain ⟨ZL,Dk⟩:∃ z,(ag ai).toArray=z:=⟨_,rfl⟩
  have SE:=Lib.hid jR;rw [Dk] at hp0 SE;clear Dk;go_wp2_with fail;refine xO.out.mono ?_;rintro e w8 ⟨F8,ws8,M8,q,er,tp,hs8,rfl,hres⟩;have HS8:=Lib.hid hs8;have HP8:=Lib.hid (U3.out.mono hs8.st hs8.sub hs8.tq.q.jY hs8.more.lq);rcases hres with ⟨rfl,t8,R8,rfl,Rj,ad5,hcnt⟩ | ⟨rfl,rfl,rfl,hcnt⟩
  ·have ND:=Lib.hid ad5
   have Nz:=Lib.hid (show ws8.length≤99000 by have h:=HS8.out.more.len; have h1:=cnt_le (eX 1024) 1024; simp only [List.length_nil] at h; omega);clear Rj ad5 hcnt hs8 xO p0;go_upto_region 12 with (first
    | (with_reducible refine wpList_store_row (o:=⟨none,.store _ (.tmp 10) _,_,_,_,_⟩) rfl 51 _ _ rfl w8.heap.size (ag q).toArray rfl rfl 51 ZL (heap_alloc_new w8 _) (bz q) (SE.out q) (aW q) ?_))
   generalize hWs:World.setRow _ w8.heap.size _=w9;have hst:=nD w8 ZL (ag q).toArray 51 w9 hWs.symm;have HQ9:=Lib.hid (HS8.out.tq.q.add hst.2 w8.heap.size _ _ (Nat.le_refl _) hst.1);have HLM:=Lib.hid (HP8.out.lm.mono (aX HS8.out.tq.q.jY hst.2) (fun _ e=>e));have HWF:=Lib.hid HP8.out.tm.at_.wf;clear hWs hst hp0 SE;generalize w8.heap.size=Y at *;have Ny:=Lib.hid (adm HQ9.out (by have:=Nz.out; omega));go_wp2_with fail;refine Ny.out.mono ?_;rintro e w10 ⟨rfl,hq10,hs10⟩;have aq1:=Lib.hid hq10;have ahI:=Lib.hid (HLM.out.mono hs10 (fun _ e=>e));have HCR:=Lib.hid (show Calls Tryz.prog 17 #[.pointer (some ⟨D,0,none⟩),.int .u64 0,.int .i64 (-1)] w10 _ from adl 0 (-1) hq10 (by decide) (by decide));clear hq10 hs10 Ny HLM;go_wp2_with fail;refine HCR.out.mono ?_;rintro e w11 ⟨rfl,hq11,hs11⟩;have ahJ:=Lib.hid (ahI.out.mono hs11 (fun _ e=>e));obtain ⟨V,hV⟩:∃ z,jG (aC (1024 * 512)) ws8=z:=⟨_,rfl⟩
   have ahK:QL w w11 P D gl 1024 (keyE++uN) F8 1 V [] (-1) false [(Y,(ag q).toArray,51),(X,#[.pointer (some ⟨t5,0,none⟩),.slice a5 m5 c5],34)] M8:=by rw [← hV]; exact hq11
   have agH:=Lib.hid ahK;have ajT:=Lib.hid (ND.out.more (ZV:=LT 1024 V F8 []) (fun a b h=>by rw [← hV]; exact ad6 (WX HQ9.out).1 (WX HQ9.out).2 a b h));clear hq11 ahK hs11 hV HCR ahI aq1 HQ9 ND HS8 HP8;have hcv:=GZ w11 #[.int .u8 109,.int .u8 97,.int .u8 115,.int .u8 116,.int .u8 101,.int .u8 114] 6 6;have hbl:=(Below.refl w11.heap.size w11).alloc (Nat.le_refl _) (.cells #[.int .u8 109,.int .u8 97,.int .u8 115,.int .u8 116,.int .u8 101,.int .u8 114] 5 (6,7));have adN:KT (w11.alloc (.cells #[.int .u8 109,.int .u8 97,.int .u8 115,.int .u8 116,.int .u8 101,.int .u8 114] 5 (6,7))):=RG.out.1.below (aJ agH.out.bel hbl) RG.out.1.pos;have HDE:=Lib.hid (G5 QG (.slice (some ⟨w11.heap.size,0,none⟩) 6 6) _ (JV w11) (qG _ _ _ (by decide) (by decide)) adN (by decide));rw [Dh,show QE QG=uN from rfl] at HDE;have EH:=Lib.hid hbl;clear hbl adN;go_wp2_with fail;refine HDE.out.mono ?_;rintro e w12 ⟨rfl,aob⟩;have YJ:=Lib.hid (aJ EH.out aob);have agI:=Lib.hid (agH.out.below YJ.out);have ahL:=Lib.hid (ahJ.out.mono (aX agH.out.jY YJ.out) (fun _ e=>e));clear hcv aob HDE EH YJ agH ahJ;obtain ⟨YK,hYK⟩:∃ z,aF (keyE++uN)=z:=⟨_,rfl⟩
   have Zt:=Lib.hid (show Calls Tryz.prog 18 #[.pointer (some ⟨D,0,none⟩),.agg (aF (keyE++uN))] w12 fun e w'=>∃ P,w12.heap.size≤P∧e = .returned (.tuple #[.pointer (some ⟨P,0,none⟩),.int .i64 0])∧PL w' P D 1024 (keyE++uN) (eX 1024) 0∧Below w12.heap.size w12 w' from by
    obtain ⟨bm,vw,hd,_⟩:=agI.out.po;exact JU D gl bm 1024 vw _ _ _ _ (keyE++uN) w12 hd (by rw [List.length_append,nX,nV]) (by decide) (by decide))
   rw [hYK] at Zt ⊢;clear hYK;go_wp2_with fail;refine Zt.out.mono ?_;rintro e w13 ⟨P2,_,rfl,hpl,ajU⟩;have ad8:=Lib.hid (agI.out.below ajU);have xy:=Lib.hid hpl;have ahM:=Lib.hid (ahL.out.mono (aX agI.out.jY ajU) (fun _ e=>e));clear hpl ajU Zt agI ahL;have nZ:=Lib.hid (ajS (F':=F8) ad8.out xy.out);have Ea:=Lib.hid (BA P2 q w13);have HRY:=Lib.hid (show w13.heap[Y]? = some (.cells (ag q).toArray 51 (0,0)) from ad8.out.row 0 _ rfl);obtain ⟨AR,hAR⟩:∃ z,(ag q).toArray=z:=⟨_,rfl⟩
   have Bc:=Lib.hid (bz q);have G7:=Lib.hid (fun W=>dR q W);have HKR:=Lib.hid (fun (hq:(q.ad == 0)=false) (W:World) (hW:RD (LT 1024 V F8 []) W P2)=>ZJ ajT.out HWF.out hq (by have:=CP.out; omega) P2 W hW);rw [hAR] at Ea HRY Bc G7 HKR;have HAR:=Lib.hid hAR;clear hAR;go_wp2_with (first
    | (with_reducible refine wpList_load_row (o:=⟨some 68,_,_,_,_,_⟩) rfl 51 _ rfl Y rfl 51 AR (0,0) _ HRY.out Tryz.underlying51 rfl Bc.out ?_))
   refine Ea.out.mono ?_;rintro e w14 hop;obtain ⟨t14,R14,rfl,htr,hcn,agJ⟩:=ad7 ajT.out HWF.out hop;have aoc:=Lib.hid agJ;have aod:=Lib.hid (nZ.out.below agJ);have Ia:=Lib.hid (JM _ _ t14 P2 R14 aY aY w14 htr (nZ.out.below agJ) (by rw [hcn]; have:=CP.out; omega));rw [rO,hcn] at Ia;clear hop htr hcn agJ Ea;go_wp2_with fail;refine Ia.out.mono ?_;rintro e w15 ⟨v15,rfl,aoe,aof⟩;obtain ⟨a15,c15,rfl,aog⟩:=aoe.ks;have agK:=Lib.hid (aJ aoc.out aof);have agL:=Lib.hid (ad8.out.below agK.out);have ad9:=Lib.hid (ahM.out.mono (aX ad8.out.jY agK.out) (fun _ e=>e));have ahN:=Lib.hid (nZ.out.below agK.out);have xJ:=Lib.hid (zU a15 a5 c15 c5 R5.cn w15 aog ad9.out.kv (by have:=CP.out; omega));rw [IJ.out] at xJ;rw [IJ.out];clear aoe aof aog Ia aod nZ ahM aoc agK ad8;have pr:w15.heap[X]? = some (.cells #[.pointer (some ⟨t5,0,none⟩),.slice a5 m5 c5] 34 (0,0)):=agL.out.row 1 _ rfl;have p0:=cell_of_row w15 X 0 _ _ _ pr;have p1:=cell_of_row w15 X 1 _ _ _ pr;clear pr;go_wp2_with fail;refine xJ.out.mono ?_;rintro e w16 ⟨rfl,hb16⟩;have agM:=Lib.hid (agL.out.below hb16);have ahO:=Lib.hid (ad9.out.mono (aX agL.out.jY hb16) (fun _ e=>e));have ahP:=Lib.hid (ahN.out.below hb16);have ahQ:=Lib.hid (show w16.heap[Y]? = some (.cells AR 51 (0,0)) from by rw [← HAR.out]; exact agM.out.row 0 _ rfl);clear hb16 xJ agL ad9 ahN HRY p0 p1;go_wp2_with (first
    | (with_reducible refine wpList_load_row (o:=⟨some 93,_,_,_,_,_⟩) rfl 51 _ rfl Y rfl 51 AR (0,0) _ ahQ.out Tryz.underlying51 rfl Bc.out ?_))
   refine (G7.out w16).mono ?_;rintro e w17 ⟨rfl,agN⟩;have aea:=Lib.hid (agM.out.below agN);have ahR:=Lib.hid (ahO.out.mono (aX agM.out.jY agN) (fun _ e=>e));have ahS:=Lib.hid (ahP.out.below agN);have ahT:=Lib.hid (show w17.heap[Y]? = some (.cells AR 51 (0,0)) from by rw [← HAR.out]; exact aea.out.row 0 _ rfl);clear agN agM ahO ahP ahQ;rcases ajT.out.null with ⟨hz,hcn⟩ | hz
   ·have hm0:m5=0:=by rw [← IJ.out,hcn]; rfl
    rw [hz];subst hm0;clear hz hcn;go_wp2_with fail;go_ret;exact ⟨rfl,aea.out.bel⟩
   have HKY:=Lib.hid (HKR.out hz w17 ahS.out);rw [hz];clear hz HKR G7;go_wp2_with (first
    | (with_reducible refine wpList_load_row (o:=⟨some 100,_,_,_,_,_⟩) rfl 51 _ rfl Y rfl 51 AR (0,0) _ ahT.out Tryz.underlying51 rfl Bc.out ?_))
   refine HKY.out.mono ?_;rintro e w18 ⟨v18,rfl,aoh,ajV⟩;obtain ⟨a18,c18,rfl,aoi⟩:=aoh.ks;have aoj:=Lib.hid (aea.out.below ajV);have aok:=Lib.hid (ahR.out.mono (aX aea.out.jY ajV) (fun _ e=>e));have xJ:=Lib.hid (zU a18 a5 c18 c5 R5.cn w18 aoi aok.out.kv (by have:=CP.out; omega));rw [IJ.out] at xJ;rw [IJ.out];clear aoh ajV aoi HKY aea ahR ahS ahT;have pr:w18.heap[X]? = some (.cells #[.pointer (some ⟨t5,0,none⟩),.slice a5 m5 c5] 34 (0,0)):=aoj.out.row 1 _ rfl;have p0:=cell_of_row w18 X 0 _ _ _ pr;have p1:=cell_of_row w18 X 1 _ _ _ pr;clear pr;go_wp2_with fail;refine xJ.out.mono ?_;rintro e w19 ⟨rfl,aol⟩;have XN:=Lib.hid ((aoj.out.below aol).bel);clear aol xJ p0 p1;go_wp2_with fail;go_ret;exact ⟨rfl,XN.out⟩
  have h:=QQ 1024 (by decide);have h2:=(mZ U3.out.tm.at_.wf (by have:=CP.out; omega)).2.2.2;have:=CP.out;omega
set_option maxRecDepth 100000 in
theorem lifted (os:Os)(started:os.Started)(H:Type)(enc:TypeId×Value→H) :
 ReturnsInHanded {} Tryz.checked os 4 .any (fun w args=>(Rows.treeNodesSpec.pre enc Tryz.prog Tryz.f4 [] false w args∧laidMetH Tryz.prog [("banyan/sha.roundNumbers",Rows.laid_banyan_sha_roundNumbers),("math/bits.deBruijn64tab",Rows.laid_math_bits_deBruijn64tab)] w)∧sizedMet enc Tryz.prog Tryz.f4 (OpenSpec.ofChange Rows.treeNodesSpec) false w args)
  (Rows.treeNodesSpec.post enc Tryz.prog Tryz.f4 false true false false):=by
 refine returnsInHanded_of_change_and (C:=Tryz.checked) (X:=fun w _=>laidMetH Tryz.prog [("banyan/sha.roundNumbers",Rows.laid_banyan_sha_roundNumbers),("math/bits.deBruijn64tab",Rows.laid_math_bits_deBruijn64tab)] w) (fun _ _ _ hh h=>h.of_heap hh) alX started (by kernel_rfl) Tryz.func4
  (ChangeSpec.witness_shaped (enc:=enc) (C:=Tryz.checked) (os:=os) (X:=fun w _=>laidMetH Tryz.prog [("banyan/sha.roundNumbers",Rows.laid_banyan_sha_roundNumbers),("math/bits.deBruijn64tab",Rows.laid_math_bits_deBruijn64tab)] w) false (World.doorLaid Tryz.prog 400 os) #[.slice none 0 0] 8 rfl (World.shaped_of_RefB (by kernel_rfl) (by kernel_rfl)) (by kernel_rfl) (by kernel_rfl) (by kernel_rfl) (Jk os _)) ?_
 intro W base args ds gs before hval0 hW _ hsz0 hL _
 have hval:∀ (j:Nat) t v,Tryz.f4.params[j]? = some t→args[j]? = some v→Value.okWide Tryz.prog W .any base t v:=hval0
 have hsz:(DataW.weightsEach Tryz.prog (Tryz.f4.params.toList++Rows.treeNodesSpec.plain.varTypes Tryz.prog) (ds++gs)).all (· ≤ reachBytes)=true:=hsz0
 clear hsz0
 have hW':=hW
 obtain ⟨p,q,hA0,hV,rfl,hfz,hnd⟩:=hW
 have hA:DataW.TrodAll enc Tryz.prog W 0 (fun _=>true) true Tryz.f4.params.toList args.toList ds p:=hA0
 rw [Tryz.params4] at hA hval hsz
 obtain ⟨v0,vs0,d0,ds0,p0,q0,hargs,rfl,rfl,h0,r0⟩:=trodAll_cons hA
 obtain ⟨rfl,rfl,rfl⟩:=trodAll_nil r0
 obtain rfl:args=#[v0]:=by cases args; simp_all
 obtain ⟨rfl,rfl⟩:=trodVars_none hV
 have k0:=h0
 have lt0:∀ x ∈ p0,x.block<W.heap.size:=by obtain ⟨m,hm⟩:=k0; exact DataW.trod_lt m _ _ _ hm
 obtain ⟨x0,a0,len0,cap0,rfl,sl0⟩:=Jb (j:=0) Tryz.underlying22 Hl (hval 0 22 v0 rfl rfl) h0 hsz rfl rfl
 have hKT:=zt hL
 clear hA0 hval0
 refine (walk W a0 len0 cap0 x0 sl0 hKT.1 hKT.2).mono fun e W' ⟨he,bel⟩=>?_
 subst he
 exact ⟨_,rfl,_,_,_, [],_, [],hW',trodAll_mk1 (shut_bool Tryz.underlying4 _),(trodAll_cons_mk (Below.trod EC (by kernel_rfl) (of_decide_eq_true (by kernel_rfl)) k0 bel lt0) trodAll_mk0),rfl,bel.frame _,fun h=>by cases h⟩
theorem over:Rows.TreeNodesSaid :=
 OpenClaim.holds_of_wide 4 Tryz.f4 rfl rfl rfl rfl rfl rfl rfl ⟨rfl,rfl,rfl,rfl,rfl⟩ rfl rfl rfl rfl rfl (by kernel_rfl) Tryz.func4 (by kernel_rfl)
  (of_decide_eq_true (by kernel_rfl)) (by unfold Func.isWrapper; first | (rw [if_pos (by decide +kernel)]; kernel_rfl) | (rw [if_neg (by decide +kernel)]; exact ⟨rfl,rfl⟩))
  (fun os started H enc _=>lifted os started H enc)
/-- The statement. -/
theorem proved:Rows.TreeNodesCardSaid :=
 Claim7.holds_tied_plain_at .later [] [.data,.data] true (true, "9ad3d20c50d472851ffdac8307fffc9beef33574a5a2d28b2fee6535d13e0c7f") false
  over (fun _ h=>by cases h) (by kernel_rfl) (fun _ h=>by cases h) treeNodes_row_tie rfl ⟨rfl,rfl⟩ (by kernel_rfl) rfl
  (fun f fn hf hfn=>by
    obtain rfl:f=4:=Option.some.inj ((show Tryz.prog.funcNamed "banyan/banyanlaw14.TreeNodes" = some 4 by kernel_rfl).symm.trans hf) |>.symm;obtain rfl:fn=Tryz.f4:=(Option.some.inj (Tryz.func4.symm.trans hfn)).symm;exact ⟨by kernel_rfl,fun j t ht=>by
     rw [Tryz.params4] at ht;have hm:t ∈ [22]:=by simpa using Array.mem_of_getElem? ht
     have hall:([22].all fun u => !Tryz.prog.wantsStandIn u)=true:=by kernel_rfl
     exact (show Tryz.prog.wantsStandIn t=false by simpa using List.all_eq_true.1 hall t hm)⟩)
  (by kernel_rfl)
#print axioms proved
end Go.Proofs.YtljjcbmkbmloaaaGreatDoor.treeNodes
