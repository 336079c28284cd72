/-
  'TreeOrders' returns true at every input, and each argument reads behind the call as it read before. Conditions: the package-level variable that the row lists starts as the program's text lays it (the card ties that).
-/
import Derived.Test.YtljjcbmkbmloaaaGreatDoorGTu10
import Derived.Test.YtljjcbmkbmloaaaGreatDoorCards
import Derived.Test.YtljjcbmkbmloaaaGreatDoorTie
import Derived.Test.YtljjcbmkbmloaaaGreatDoorGTu48
namespace Go.Proofs.YtljjcbmkbmloaaaGreatDoor.treeOrders
open Go.ChangeShapes Go.WideShapes Go.ChangeAt Go.RowKit
set_option linter.unusedVariables false
set_option maxRecDepth 100000 in
set_option maxHeartbeats 6400000 in
theorem walk (w:World)(a0:Option Addr)(len0 cap0:Nat)(x0:List dh)(sl0:SlR QY 4 w x0 a0 len0 cap0)(z1:Int)(za1:0≤z1)(zb1:z1≤255)(hK:KT w)(hT:TZ w) :
 Calls Tryz.prog 7 #[.slice a0 len0 cap0,.int .u8 z1] w fun e w'=>e = .returned (.bool true)∧Below w.heap.size w w':=by
 have HA:=Lib.hid (Dl w hK hT)
 obtain ⟨kp,rfl⟩:∃ t:Nat,z1=(t:Int):=⟨z1.toNat,by omega⟩
 have HKP:=Lib.hid (show kp≤255 by omega)
 have RG:=Lib.hid (And.intro hK hT)
 obtain ⟨hat,hok⟩:=ahz sl0
 have HLEN:=Lib.hid sl0.len
 have HCAP:=Lib.hid (And.intro sl0.cap sl0.big)
 have HAT:=Lib.hid hat
 have qP:=Lib.hid hok
 clear sl0 hat hok
 clear hK hT za1 zb1
 go_in
 go_wp2_with fail
 refine HA.out.mono ?_
 rintro e w1 ⟨rfl,hb1⟩
 have HB1:=Lib.hid hb1
 clear hb1 HA
 have ZX:=Lib.hid (WJ a0 cap0 x0 w1 (HAT.out.below HB1.out) qP.out (by rw [HLEN.out]; exact Nat.le_trans HCAP.out.1 HCAP.out.2))
 rw [HLEN.out] at ZX
 go_wp2_with fail
 refine ZX.out.mono ?_
 rintro e w3 ⟨hg,hb3⟩
 have HB3:=Lib.hid (aJ HB1.out hb3)
 clear hb3 ZX HB1
 rcases hg with rfl | ⟨rfl,hg1,hg2⟩
 ·go_wp2_with fail
  go_ret;exact ⟨rfl,HB3.out⟩
 ·have YC:=Lib.hid (And.intro hg1 hg2)
  clear hg1 hg2;have YB:=Lib.hid (Ns w w3 1024 RG.out.1 RG.out.2 HB3.out (by decide) (by decide));go_wp2_with fail;refine YB.out.mono ?_;rintro e w4 ⟨t,P,D,gl,M4,rfl,hq4,UG,_⟩;have nC:=Lib.hid hq4;have HT4:=Lib.hid UG;clear hq4 UG YB HB3;have hmm:∀ W:World,(Instr.makeMap 81 none).run Tryz.prog W = .ok (.map (some W.heap.size)) (W.alloc (.map #[] 0)):=fun W=>run_makeMap _ W;have hba:=aK w4 (.map #[] 0);have HI0:=Lib.hid (show OrI w4 (w4.alloc (.map #[] 0)) w4.heap.size (w4.alloc (.map #[] 0)).heap.size (.slice none 0 0) [] 0 from ⟨Ic.nil _ _,⟨[],0,agB w4,Nat.le_refl _,fun x=>by simp [Nv]⟩,hba,⟨Nat.le_refl _,by simp,Nat.le_refl _⟩,List.Pairwise.nil,fun a ha=>absurd ha (by simp),Nat.le_refl _⟩);have n0I:(len0:Int)≤150:=by have:=YC.out.1; have:=HLEN.out; omega
  clear hba;go_wp2_with fail;clear hmm;generalize hw5:World.alloc w4 (.map #[] 0)=w5 at *;generalize w4.heap.size=mb at *;go_loopw [10,12,51] (fun v10 _ v51 wr=>∃ (i:Nat) (S:List dh),i≤len0∧v51 = .int .i64 (i:Int)∧OrI w4 wr mb w5.heap.size v10 S i) (fun _ _ v _=>len0 - (intOf v).toNat)
  case atStart=>exact ⟨0, [],Nat.zero_le _,rfl,HI0.out⟩
  case round =>
   obtain ⟨i,S,hi,rfl,hI⟩:=hrel;clear HI0;by_cases hlt:i<len0
   ·obtain ⟨q,hq⟩:∃ q,x0[i]? = some q:=⟨_,List.getElem?_eq_getElem (by rw [HLEN.out]; exact hlt)⟩
    obtain ⟨b,off,rfl,hrg⟩:=(HAT.out.below (aJ nC.out.q.bel hI.bel)).at_ i q hq;obtain ⟨c0,c1,c2,c3⟩:=mY hrg;have hix:=jK b off len0 cap0 i hlt;have bn:=Lib.hid hlt;have hqm:=List.mem_of_getElem? hq;have HSQ:=Lib.hid (YC.out.2 q hqm);have iI:(i:Int)<(len0:Int):=by omega
    have i0:(0:Int)≤(i:Int):=by omega
    have HI:=Lib.hid hI;clear hi hlt hq hrg hqm hI;obtain ⟨kd,nn,k,v⟩:=q;dsimp only at c0 c1 c2 c3;go_upto_region 13 with fail
    generalize hwi:World.alloc wr (.cells #[.int .i64 kd,.int .i64 nn,.string k,.string v] 37)=wi;have hbi:=aK wr (.cells #[.int .i64 kd,.int .i64 nn,.string k,.string v] 37);have hni:=ah wr (.cells #[.int .i64 kd,.int .i64 nn,.string k,.string v] 37);rw [hwi] at hbi hni;have HII:=Lib.hid (HI.out.below hbi (Nat.le_refl _));have HNI:=Lib.hid hni;have HXM:=Lib.hid (show mb ≠ wr.heap.size by have:=HI.out.lo; omega);have j0:=cell_of_row wi wr.heap.size 0 _ _ _ hni;have j1:=cell_of_row wi wr.heap.size 1 _ _ _ hni;have j2:=cell_of_row wi wr.heap.size 2 _ _ _ hni;have j3:=cell_of_row wi wr.heap.size 3 _ _ _ hni;clear hwi hbi hni c0 c1 c2 c3 hix HI;generalize wr.heap.size=X at *;obtain ⟨bk,hlk,hbk⟩:=HII.out.look k (by have:=HSQ.out.1; dsimp only at this; omega);have ZU:=Lib.hid hbk;have Ar:=Lib.hid (rX k wi (by have:=HSQ.out.1; dsimp only at this; omega));have vI:(v.size:Int)≤8000:=by have:=HSQ.out.2; dsimp only at this; omega
    clear hbk;go_wp2_with fail;refine Ar.out.mono ?_;rintro e wk ⟨rfl,hwk⟩;subst wk;clear Ar;cases hmy:jf k with
    | false =>
      go_wp2_with fail;go_roundw
      case rel=>exact ⟨i+1,S,by have:=bn.out; omega,by go_num,HII.out.below (Below.refl _ _) (Nat.le_succ _)⟩
      case measure=>simp [intOf]; have:=bn.out; omega
    | true =>
      have HMY:=Lib.hid hmy;clear hmy;by_cases h96:v.size≤96
      ·have hv:(v.size:Int)≤96:=by omega
       have H96:=Lib.hid h96;clear h96;cases bk with
       | true =>
         go_wp2_with fail;go_roundw
         case rel=>exact ⟨i+1,S,by have:=bn.out; omega,by go_num,HII.out.below (Below.refl _ _) (Nat.le_succ _)⟩
         case measure=>simp [intOf]; have:=bn.out; omega
       | false =>
         obtain ⟨w5',hup,Wi,hnx⟩:=HII.out.next ⟨kd,nn,k,v⟩ (by have:=bn.out; have:=YC.out.1; have:=HLEN.out; omega) ⟨HMY.out,(by have h:=HMY.out; unfold jf at h; simp at h; exact h.2),H96.out⟩ (fun h=>by simpa using ZU.out.2 h) 22;have xB:=Lib.hid hnx;have ZC:=(Wi.block X (lt_of_block HNI.out) (by simp only [List.mem_singleton]; rintro rfl; exact HXM.out rfl)).trans HNI.out;have IC:=Lib.hid ZC;have j0:=cell_of_row w5' X 0 _ _ _ ZC;have j1:=cell_of_row w5' X 1 _ _ _ ZC;have j2':=cell_of_row w5' X 2 _ _ _ ZC;have j3':=cell_of_row w5' X 3 _ _ _ ZC;clear hnx ZC Wi;dsimp only at hup;go_upto_region 15 with fail
         have hb6:=aK w5' (.cells #[.int .i64 kd,.int .i64 nn,.string k,.string v] 37);have U5:=ah w5' (.cells #[.int .i64 kd,.int .i64 nn,.string k,.string v] 37);obtain ⟨v7,w7,r7,hI7⟩:=xB.out _ hb6 w5'.heap.size 1 U5;have HR7:=Lib.hid r7;have HI7:=Lib.hid hI7;have hlt1:=fun W=>agA ⟨kd,nn,k,v⟩ W;have hsz:=Vl kd nn k v;clear r7 hI7 hb6 U5;go_wp2_with (first
          | (with_reducible refine wpList_load_row (o:=⟨some 75,_,_,_,_,_⟩) rfl 37 _ rfl X rfl 37 #[.int .i64 kd,.int .i64 nn,.string k,.string v] (0,0) _ IC.out Tryz.underlying37 rfl hsz ?_)
          | (at_builtin; refine aS _ rfl _ _ 22 22 rfl _ _ rfl rfl HR7.out ?_))
         go_roundw
         case rel=>exact ⟨i+1,_,by have:=bn.out; omega,by go_num,HI7.out⟩
         case measure=>simp [intOf]; have:=bn.out; omega
      have hv:¬ ((v.size:Int)≤96):=by omega
      clear h96;go_wp2_with fail;go_roundw
      case rel=>exact ⟨i+1,S,by have:=bn.out; omega,by go_num,HII.out.below (Below.refl _ _) (Nat.le_succ _)⟩
      case measure=>simp [intOf]; have:=bn.out; omega
   obtain rfl:len0=i:=by omega
   obtain ⟨a10,c10,rfl,_,hcc,_,_⟩:=hI.own.at_;have hlS:S.length≤150:=by have:=hI.len; have:=YC.out.1; have:=HLEN.out; omega
   obtain ⟨n,hn⟩:∃ z,S.length=z:=⟨_,rfl⟩
   obtain ⟨m,hm⟩:∃ z,kp % (n+1)=z:=⟨_,rfl⟩
   have hmn:m≤n:=by have:=Nat.mod_lt kp (show 0<n+1 by omega); omega
   have an1:(kp:Int) % ((n:Int)+1)=(m:Int):=by have h:=Int.natCast_emod kp (n+1); rw [hm] at h; rw [h]; rfl
   have nI:(n:Int)≤150:=by omega
   have n0:(0:Int)≤(n:Int):=by omega
   have mI:(m:Int)≤(n:Int):=by omega
   have m0:(0:Int)≤(m:Int):=by omega
   have kp0:(0:Int)≤(kp:Int):=by omega
   have kpI:(kp:Int)≤255:=by have:=HKP.out; omega
   have HI:=Lib.hid hI;have HN:=Lib.hid hn;have HMN:=Lib.hid hmn;have DN:=Lib.hid hlS;clear hI hm hi hlt n0I;rw [hn];clear hn hlS hcc;go_upto_region 19 with fail
   rw [an1];clear an1 kp0 kpI;obtain ⟨a1,a2,v8,w8,v9,w9,s1,s2,r1,r2,o9,b9⟩:=ajM HI.out.own (by rw [HN.out]; exact HMN.out) (by have:=DN.out; omega) 22;rw [HN.out] at s1 s2 r1;have HR1:=Lib.hid r1;have HR2:=Lib.hid r2;have HO9:=Lib.hid o9;have HB9:=Lib.hid b9;clear r1 r2 o9 b9;try simp only [Act.put]
   refine wp_region_noPanic ?_;refine wp_region_held_drew (S:=fun _=>True) (by kernel_rfl) trivial (fun hHeld=>?_);refine tR 1 88 (h:=tR 2 89 (h:=tR 3 90 (h:=tR 5 92 (h:=tR 6 93 (h:=tR 7 94 (h:=?_))))));refine rD 0 rfl fun K hK=>?_;refine Jc (o:=⟨some 87,_,_,_,_,_⟩) 22 0 #[] rfl #[] (by simp) _ _ (Vk _) ?_;refine hK.out _ _ trivial (fun hHeld=>?_);clear hK K;try simp only [Act.put,pZ]
   refine rD 4 rfl fun K hK=>?_;refine zl (o:=⟨some 91,_,_,_,_,_⟩) (.tmp 87) (.tmp 90) 22 rfl _ _ rfl rfl _ _ HR1.out ?_;refine hK.out _ _ trivial (fun hHeld=>?_);clear hK K;try simp only [Act.put,pZ]
   refine rD 8 rfl fun K hK=>?_;refine zl (o:=⟨some 95,_,_,_,_,_⟩) (.tmp 91) (.tmp 94) 22 rfl _ _ rfl rfl _ _ HR2.out ?_;refine hK.out _ _ trivial (fun hHeld=>?_);clear hK K;try simp only [Act.put,pZ]
   refine tR 9 16 (h:=?_);refine wpAnyH_done (by decide +kernel) ?_ _;refine NoPanic.normal ?_;obtain ⟨T,hT⟩:∃ T,S.drop m++S.take m=T:=⟨_,rfl⟩
   have hTl:T.length=n:=by rw [← hT,List.length_append,List.length_drop,List.length_take,HN.out]; have:=HMN.out; omega
   have HKS:=Lib.hid HI.out.keys;have an3:=Lib.hid (hT ▸ ad1 HI.out.keys m);have He:=Lib.hid (fun a=>show a ∈ S↔a ∈ T from hT ▸ Vh m a);obtain ⟨a16,c16,e16,hTA,_,_,_⟩:=HO9.out.at_;rw [hT] at hTA;rw [hT,hTl] at e16;subst e16;have HTA:=Lib.hid hTA;have kZ:=Lib.hid hTl;obtain ⟨_,_,e10,hSA,_,_,_⟩:=HI.out.own.at_;injection e10 with e1 e2 e3;subst e1 e3;have HSA:=Lib.hid (hSA.below HB9.out);have HQ9:=Lib.hid (nC.out.below (aJ HI.out.bel HB9.out));have HT9:=Lib.hid (HT4.out.cO nC.out HQ9.out (fun _ e=>e) (aJ HI.out.bel HB9.out));have IU:=Lib.hid HI.out.may;have HKE:=Lib.hid (And.intro hT HB9.out);clear e2 s1 s2 HR1 HR2 HO9 HB9 hT hTl hTA hSA HI nC HT4 mI m0 HKP qP HLEN HAT HCAP YC;go_wp2_with fail;go_loopw [14,15,17,18,19,20,21,98] (fun v14 v15 _ _ _ _ _ v98 wr=>∃ (i:Nat) (M:List Nat) (tX tY:Nat) (RX RY:Rt),i≤n∧v98 = .int .i64 (i:Int)∧v14 = .pointer (some ⟨tX,0,none⟩)∧v15 = .pointer (some ⟨tY,0,none⟩)∧TQ w wr P D gl 1024 (aC (1024 * 512)) (eX 1024) [] [] M∧TM wr P 1024 (aC (1024 * 512)) (eX 1024) [] M tX RX∧TM wr P 1024 (aC (1024 * 512)) (eX 1024) [] M tY RY∧RX.cn=gX (S.take i) []∧RY.cn=gX (T.take i) []∧Below w9.heap.size w9 wr) (fun _ _ _ _ _ _ _ v _=>n - (intOf v).toNat)
   case atStart=>exact ⟨0,M4,t,t,none,none,Nat.zero_le _,rfl,rfl,rfl,HQ9.out,HT9.out,HT9.out,rfl,rfl,Below.refl _ _⟩
   case round =>
    obtain ⟨i,M,tX,tY,RX,RY,hi,rfl,rfl,rfl,hq,hx,hy,hcx,hcy,hbr⟩:=hrel;have HQ:=Lib.hid hq;have HX:=Lib.hid hx;have HY:=Lib.hid hy;have Fz:=Lib.hid hbr;have HCX:=Lib.hid hcx;have HCY:=Lib.hid hcy;clear hq hx hy hbr hcx hcy HQ9 HT9;by_cases hlt:i<n
    ·obtain ⟨qx,hqx⟩:∃ q,S[i]? = some q:=⟨_,List.getElem?_eq_getElem (by rw [HN.out]; exact hlt)⟩
     obtain ⟨qy,hqy⟩:∃ q,T[i]? = some q:=⟨_,List.getElem?_eq_getElem (by rw [kZ.out]; exact hlt)⟩
     obtain ⟨b,off,rfl,hrg⟩:=(HSA.out.below Fz.out).at_ i qx hqx;obtain ⟨b',off',rfl,ad3⟩:=(HTA.out.below Fz.out).at_ i qy hqy;obtain ⟨_,_,c2,c3⟩:=mY hrg;obtain ⟨_,_,d2,d3⟩:=mY ad3;have hix:=jK b off n c10 i hlt;have hiy:=jK b' off' n c16 i hlt;have bn:=Lib.hid hlt;have hmx:=IU.out qx (List.mem_of_getElem? hqx);have hmy:=IU.out qy ((He.out qy).2 (List.mem_of_getElem? hqy));have HMX:=Lib.hid hmx;have HMY:=Lib.hid hmy;have xB:=Lib.hid (Dn hqx);have HNY:=Lib.hid (Dn hqy);have HLX:=Lib.hid (show RX.cn.length≤1000 by rw [HCX.out]; have:=BD (S.take i) []; rw [List.length_take] at this; have:=DN.out; have:=HN.out; simp only [List.length_nil] at *; omega);have HLY:=Lib.hid (show RY.cn.length≤1000 by rw [HCY.out]; have:=BD (T.take i) []; rw [List.length_take] at this; have:=kZ.out; have:=DN.out; have:=HN.out; simp only [List.length_nil] at *; omega);have hdr:=(Below.refl wr.heap.size wr).drew;have HQd:=Lib.hid (HQ.out.below hdr);have HXd:=Lib.hid (HX.out.cO HQ.out HQd.out (fun _ e=>e) hdr);have HYd:=Lib.hid (HY.out.cO HQ.out HQd.out (fun _ e=>e) hdr);have an6:=Lib.hid (aJ Fz.out hdr);have HPX:=Lib.hid (Ho qx.k qx.v HQd.out HXd.out HLX.out (by have:=hmx.2.1; omega) (by have:=hmx.2.2; omega));clear hdr HQ HX HY Fz;have iI:(i:Int)<(n:Int):=by omega
     have i0:(0:Int)≤(i:Int):=by omega
     have H4:=Lib.hid (And.intro d2 d3);clear hi hlt hqx hqy hrg ad3 hmx hmy d2 d3;go_upto_region 23 with fail
     try simp only [Act.put]
     refine wp_region_noPanic ?_;refine wp_region_held_drew (S:=fun W=>W.cell? ⟨b,off+i * 4+2,none⟩=some (.string qx.k)∧W.cell? ⟨b,off+i * 4+3,none⟩=some (.string qx.v)) (by kernel_rfl) ⟨c2,c3⟩ (fun hHeld=>?_);refine tR 0 102 (h:=tR 1 103 (h:=tR 2 104 (h:=tR 3 105 (h:=tR 4 106 (h:=tR 6 108 (h:=tR 7 109 (h:=tR 8 110 (h:=tR 9 111 (h:=?_)))))))));refine tK 5 107 ?_ rfl (Or.inl ⟨by rfl, ?_⟩) ?_;rotate_left 1
     ·(intro w' hSw; have hcell:=hSw.1; clear hSw; go_simp; try with_reducible rfl)
     try simp only [Act.put,pZ]
     refine tK 10 112 ?_ rfl (Or.inl ⟨by rfl, ?_⟩) ?_;rotate_left 1
     ·(intro w' hSw; have hcell:=hSw.2; clear hSw; go_simp; try with_reducible rfl)
     try simp only [Act.put,pZ]
     clear hHeld;refine rD 11 rfl fun K hK=>?_;go_simp;go_at_call 27
     refine HPX.out.mono ?_;rintro e wp ⟨Mp,hqp,hsp,hbp,hcp⟩;unfold Hm at hcp;rw [HMX.out.1,show decide (qx.v.size≤96)=true from decide_eq_true HMX.out.2.2] at hcp;rw [show (true && true)=true from rfl,if_pos rfl] at hcp;rcases hcp with ⟨h1,_⟩ | ⟨_,tX2,RX2,rfl,ht,hcn,_⟩
     ·exact absurd rfl h1
     have HQp:=Lib.hid hqp;have HBp:=Lib.hid hbp;have HXp:=Lib.hid ht;have HYp:=Lib.hid (HYd.out.cO HQd.out hqp hsp.1 hbp);have aqP:=Lib.hid (show RX2.cn=gX (S.take (i+1)) [] by rw [xB.out,← HCX.out]; exact hcn);have hc2:=ae c2 (hbp.block _ (block_lt_of_cell c2));have hc3:=ae c3 (hbp.block _ (block_lt_of_cell c3));clear hqp hsp hbp ht hcn;go_wp2_with fail;refine hK.out _ _ ⟨hc2,hc3⟩ (fun hHeld=>?_);clear hK K hc2 hc3 c2 c3;try simp only [Act.put,pZ]
     refine tR 12 101 (h:=tR 13 114 (h:=tR 14 115 (h:=tR 15 18 (h:=tR 16 19 (h:=?_)))));clear hHeld;refine wpAnyH_done (by decide +kernel) ?_ _;refine NoPanic.normal ?_;have d2:=ae H4.out.1 (HBp.out.block _ (block_lt_of_cell H4.out.1));have d3:=ae H4.out.2 (HBp.out.block _ (block_lt_of_cell H4.out.2));have hdr:=(Below.refl wp.heap.size wp).drew;have HQe:=Lib.hid (HQp.out.below hdr);have HXe:=Lib.hid (HXp.out.cO HQp.out HQe.out (fun _ e=>e) hdr);have HYe:=Lib.hid (HYp.out.cO HQp.out HQe.out (fun _ e=>e) hdr);have HBe:=Lib.hid (aJ an6.out (aJ HBp.out hdr));have HPY:=Lib.hid (Ho qy.k qy.v HQe.out HYe.out HLY.out (by have:=HMY.out.2.1; omega) (by have:=HMY.out.2.2; omega));clear hdr hix HPX HXd HYd HQd H4 HMX HLX xB HQp HXp HYp HBp an6;go_upto_region 24 with fail
     try simp only [Act.put]
     refine wp_region_noPanic ?_;refine wp_region_held_drew (S:=fun W=>W.cell? ⟨b',off'+i * 4+2,none⟩=some (.string qy.k)∧W.cell? ⟨b',off'+i * 4+3,none⟩=some (.string qy.v)) (by kernel_rfl) ⟨d2,d3⟩ (fun hHeld=>?_);refine tR 0 117 (h:=tR 1 118 (h:=tR 2 119 (h:=tR 3 120 (h:=tR 4 121 (h:=tR 6 123 (h:=tR 7 124 (h:=tR 8 125 (h:=tR 9 126 (h:=?_)))))))));refine tK 5 122 ?_ rfl (Or.inl ⟨by rfl, ?_⟩) ?_;rotate_left 1
     ·(intro w' hSw; have hcell:=hSw.1; clear hSw; go_simp; try with_reducible rfl)
     try simp only [Act.put,pZ]
     refine tK 10 127 ?_ rfl (Or.inl ⟨by rfl, ?_⟩) ?_;rotate_left 1
     ·(intro w' hSw; have hcell:=hSw.2; clear hSw; go_simp; try with_reducible rfl)
     try simp only [Act.put,pZ]
     clear hHeld;refine rD 11 rfl fun K hK=>?_;go_simp;go_at_call 27
     refine HPY.out.mono ?_;rintro e wq ⟨Mq,hqp,hsp,hbp,hcp⟩;unfold Hm at hcp;rw [HMY.out.1,show decide (qy.v.size≤96)=true from decide_eq_true HMY.out.2.2] at hcp;rw [show (true && true)=true from rfl,if_pos rfl] at hcp;rcases hcp with ⟨h1,_⟩ | ⟨_,tY2,RY2,rfl,ht,hcn,_⟩
     ·exact absurd rfl h1
     have HQq:=Lib.hid hqp;have HBq:=Lib.hid (aJ HBe.out hbp);have HYq:=Lib.hid ht;have HXq:=Lib.hid (HXe.out.cO HQe.out hqp hsp.1 hbp);have aqQ:=Lib.hid (show RY2.cn=gX (T.take (i+1)) [] by rw [HNY.out,← HCY.out]; exact hcn);have hc2:=ae d2 (hbp.block _ (block_lt_of_cell d2));have hc3:=ae d3 (hbp.block _ (block_lt_of_cell d3));clear hqp hsp hbp ht hcn;go_wp2_with fail;refine hK.out _ _ ⟨hc2,hc3⟩ (fun hHeld=>?_);clear hK K hc2 hc3 d2 d3;try simp only [Act.put,pZ]
     refine tR 12 116 (h:=tR 13 129 (h:=tR 14 130 (h:=tR 15 20 (h:=tR 16 21 (h:=?_)))));clear hHeld;refine wpAnyH_done (by decide +kernel) ?_ _;refine NoPanic.normal ?_;clear hiy HPY HXe HYe HQe HMY HLY HNY HBe;go_wp2_with fail;go_roundw
     case rel=>exact ⟨i+1,Mq,tX2,tY2,RX2,RY2,by have:=bn.out; omega,by go_num,rfl,rfl,HQq.out,HXq.out,HYq.out,aqP.out,aqQ.out,HBq.out⟩
     case measure=>simp [intOf]; have:=bn.out; omega
    obtain rfl:n=i:=by omega
    clear hi hlt;have hT2:T.take n=T:=List.take_of_length_le (Nat.le_of_eq kZ.out);have hS2:S.take n=S:=List.take_of_length_le (Nat.le_of_eq HN.out);obtain ⟨KK,hKK⟩:∃ K,gX S []=K:=⟨_,rfl⟩
    have hcx:=HCX.out;have hcy:=HCY.out;rw [hS2,hKK] at hcx;rw [hT2,← Vg HKS.out an3.out He.out,hKK] at hcy;have HKK:=Lib.hid hKK;have Ap:=Lib.hid (show KK.length=n by rw [← hKK,WR S List.Pairwise.nil HKS.out (fun _ _ p hp=>absurd hp (by simp)),HN.out]; simp);have HCX:=Lib.hid hcx;have HCY:=Lib.hid hcy;have HL1:=Lib.hid (show RX.cn.length≤1000 by rw [hcx,Ap.out]; have:=HN.out; have:=DN.out; omega);have HL2:=Lib.hid (show RY.cn.length≤1000 by rw [hcy,Ap.out]; have:=HN.out; have:=DN.out; omega);clear hT2 hS2 hKK hcx hcy;have Ia:=Lib.hid (xq aY aY HQ.out HX.out HL1.out);rw [rO,HCX.out] at Ia;go_wp2_with fail;refine Ia.out.mono ?_;rintro e wa ⟨va,rfl,hva,hba⟩;obtain ⟨aA,cA,rfl,hkA⟩:=hva.ks;have HQa:=Lib.hid (HQ.out.below hba);have HXa:=Lib.hid (HX.out.cO HQ.out HQa.out (fun _ e=>e) hba);have HYa:=Lib.hid (HY.out.cO HQ.out HQa.out (fun _ e=>e) hba);have HBa:=Lib.hid (aJ Fz.out hba);have HKA:=Lib.hid hkA;clear hva hba hkA Ia HQ HX HY Fz;have Ia:=Lib.hid (xq aY aY HQa.out HYa.out HL2.out);rw [rO,HCY.out] at Ia;go_wp2_with fail;refine Ia.out.mono ?_;rintro e wb ⟨vb,rfl,hvb,hbb⟩;obtain ⟨aB,cB,rfl,hkB⟩:=hvb.ks;have HQb:=Lib.hid (HQa.out.below hbb);have HXb:=Lib.hid (HXa.out.cO HQa.out HQb.out (fun _ e=>e) hbb);have HBb:=Lib.hid (aJ HBa.out hbb);have xJ:=Lib.hid (zU aA aB cA cB KK wb (HKA.out.below hbb) hkB (by rw [Ap.out]; have:=HN.out; have:=DN.out; omega));rw [Ap.out] at xJ;rw [Ap.out];clear hvb hbb hkB Ia HQa HXa HYa HBa HKA;go_wp2_with fail;refine xJ.out.mono ?_;rintro e wc ⟨rfl,hbc⟩;have HQc:=Lib.hid (HQb.out.below hbc);have HXc:=Lib.hid (HXb.out.cO HQb.out HQc.out (fun _ e=>e) hbc);have HBc:=Lib.hid (aJ HBb.out hbc);clear hbc xJ HQb HXb HBb;go_wp2_with fail;go_loopw [14,27,28,29,171] (fun v14 _ _ _ v171 wr=>∃ (i:Nat) (M:List Nat) (tX:Nat) (RX:Rt),i≤n∧v171 = .int .i64 (i:Int)∧v14 = .pointer (some ⟨tX,0,none⟩)∧TQ w wr P D gl 1024 (aC (1024 * 512)) (eX 1024) [] [] M∧TM wr P 1024 (aC (1024 * 512)) (eX 1024) [] M tX RX∧RX.cn=lV (T.take i) KK∧Below w9.heap.size w9 wr) (fun _ _ _ _ v _=>n - (intOf v).toNat)
    case atStart=>exact ⟨0,M,tX,RX,Nat.zero_le _,rfl,rfl,HQc.out,HXc.out,HCX.out,HBc.out⟩
    case round =>
     obtain ⟨j,M3,t3,R3,hj,rfl,rfl,hq,hx,hcx,hbr⟩:=hrel;have HQ:=Lib.hid hq;have HX:=Lib.hid hx;have Fz:=Lib.hid hbr;have HC3:=Lib.hid hcx;clear hq hx hbr hcx HQc HXc HBc;by_cases hlt:j<n
     ·obtain ⟨qy,hqy⟩:∃ q,T[j]? = some q:=⟨_,List.getElem?_eq_getElem (by rw [kZ.out]; exact hlt)⟩
      obtain ⟨b',off',rfl,ad3⟩:=(HTA.out.below Fz.out).at_ j qy hqy;obtain ⟨d0,d1,d2,d3⟩:=mY ad3;have hiy:=jK b' off' n c16 j hlt;have bn:=Lib.hid hlt;have HMY:=Lib.hid (IU.out qy ((He.out qy).2 (List.mem_of_getElem? hqy)));have HNY:=Lib.hid (Rh hqy KK);have HHS:=Lib.hid (adZ HKS.out an3.out (fun a h=>(He.out a).2 h) j qy hqy);have iI:(j:Int)<(n:Int):=by omega
      have i0:(0:Int)≤(j:Int):=by omega
      obtain ⟨kd,nn,k,v⟩:=qy;dsimp only at d0 d1 d2 d3;clear hj hlt hqy ad3;go_upto_region 36 with fail
      generalize hwi:World.alloc wr (.cells #[.int .i64 kd,.int .i64 nn,.string k,.string v] 37)=wi;have hbi:=aK wr (.cells #[.int .i64 kd,.int .i64 nn,.string k,.string v] 37);have hni:=ah wr (.cells #[.int .i64 kd,.int .i64 nn,.string k,.string v] 37);rw [hwi] at hbi hni;have j2:=cell_of_row wi wr.heap.size 2 _ _ _ hni;have HQi:=Lib.hid (HQ.out.below hbi);have HXi:=Lib.hid (HX.out.cO HQ.out HQi.out (fun _ e=>e) hbi);have HBi:=Lib.hid (aJ Fz.out hbi);clear hwi hbi hni d0 d1 d2 d3 hiy HQ HX Fz;generalize wr.heap.size=X at *;have HDL:=Lib.hid (adP k HQi.out HXi.out (by rw [HC3.out]; have:=J9 (T.take j) KK; rw [Ap.out] at this; have:=HN.out; have:=DN.out; omega) (by have:=HMY.out.2.1; dsimp only at this; omega));go_wp2_with fail;refine HDL.out.mono ?_;rintro e wp ⟨Mp,hqp,hsp,hbp,hcp⟩;unfold Hm at hcp;have hmk:jf k=true:=HMY.out.1;rw [hmk,if_pos rfl] at hcp;have herr:Cg.err (.del k) R3.cn=0:=by
       show (if vN k R3.cn then (0:Int) else 8)=0;have h:=HHS.out;rw [HKK.out,← HC3.out] at h;rw [if_pos h]
      rcases hcp with ⟨h1,_⟩ | ⟨_,t4,R4,rfl,ht,hcn,_⟩
      ·exact absurd herr h1
      have HQp:=Lib.hid hqp;have HXp:=Lib.hid ht;have HBp:=Lib.hid (aJ HBi.out hbp);have HC4:=Lib.hid (show R4.cn=lV (T.take (j+1)) KK by rw [HNY.out,← HC3.out]; exact hcn);clear hqp hsp hbp ht hcn hmk herr HDL j2 HQi HXi HBi;go_wp2_with fail;go_roundw
      case rel=>exact ⟨j+1,Mp,t4,R4,by have:=bn.out; omega,by go_num,rfl,HQp.out,HXp.out,HC4.out,HBp.out⟩
      case measure=>simp [intOf]; have:=bn.out; omega
     obtain rfl:n=j:=by omega
     clear hj hlt;have ad4:=adY HKS.out (fun a h=>(He.out a).1 h);rw [HKK.out] at ad4;have hc3:=HC3.out;rw [List.take_of_length_le (Nat.le_of_eq kZ.out),ad4] at hc3;obtain rfl:=agF HX.out.at_.wf hc3;clear ad4 hc3 HC3;have Ia:=Lib.hid (xq aY aY HQ.out HX.out (by simp [Rt.cn]));rw [rO,show Rt.cn none=[] from rfl] at Ia;go_wp2_with fail;refine Ia.out.mono ?_;rintro e wa ⟨va,rfl,hva,hba⟩;obtain ⟨aA,cA,rfl,_⟩:=hva.ks;have HQa:=Lib.hid (HQ.out.below hba);have HXa:=Lib.hid (HX.out.cO HQ.out HQa.out (fun _ e=>e) hba);clear hva hba Ia HQ HX;rw [show ([]:List bH).length=0 from rfl];have xO:=Lib.hid (Af HQa.out HXa.out);have hp0:=dF;obtain ⟨ZL,Dk⟩:∃ z,(ag ai).toArray=z:=⟨_,rfl⟩
     have SE:=Lib.hid jR;rw [Dk] at hp0 SE;clear Dk;go_wp2_with fail;refine xO.out.mono ?_;rintro e w8 ⟨F8,ws8,M8,q,er,tp,hs8,rfl,hres⟩;rcases hres with ⟨rfl,t8,R8,rfl,Rj,ad5,hcnt⟩ | ⟨rfl,rfl,rfl,hcnt⟩
     ·have hq0:q.ad=0:=by cases ad5; assumption
      have HQ8:=Lib.hid hs8.tq;have Ba:=Lib.hid hq0;clear Rj ad5 hcnt hs8 hq0 xO HQa HXa;go_upto_region 43 with (first
       | (with_reducible refine wpList_store_row (o:=⟨none,.store _ (.tmp 33) _,_,_,_,_⟩) rfl 51 _ _ rfl w8.heap.size (ag q).toArray rfl rfl 51 ZL (heap_alloc_new w8 _) (bz q) (SE.out q) (aW q) ?_))
      generalize hWs:World.setRow _ w8.heap.size _=w9x;have hst:=nD w8 ZL (ag q).toArray 51 w9x hWs.symm;have TJ:=Lib.hid hst.1;have aqU:=Lib.hid (HQ8.out.below hst.2);have G7:=Lib.hid (dR q w9x);rw [show (q.ad == 0)=true by rw [Ba.out]; rfl] at G7;clear hWs hst hp0 HQ8;go_wp2_with (first
       | (with_reducible refine jW (o:=⟨some 209,_,_,_,_,_⟩) (by kernel_rfl) 51 _ rfl w8.heap.size rfl 51 (ag q).toArray (0,0) _ TJ.out Tryz.underlying51 rfl (bz q) ?_))
      refine G7.out.mono ?_;rintro e wB ⟨rfl,hbB⟩;have XN:=Lib.hid ((aqU.out.below hbB).q.bel);clear hbB G7;go_wp2_with fail;go_ret;exact ⟨rfl,XN.out⟩
     have h:cnt (eX 1024) 1024<0:=hcnt;omega
set_option maxRecDepth 100000 in
theorem lifted (os:Os)(started:os.Started)(H:Type)(enc:TypeId×Value→H) :
 ReturnsInHanded {} Tryz.checked os 7 .any (fun w args=>(Rows.treeOrdersSpec.pre enc Tryz.prog Tryz.f7 [] false w args∧laidMetH Tryz.prog [("banyan/sha.roundNumbers",Rows.laid_banyan_sha_roundNumbers),("math/bits.deBruijn64tab",Rows.laid_math_bits_deBruijn64tab)] w)∧sizedMet enc Tryz.prog Tryz.f7 (OpenSpec.ofChange Rows.treeOrdersSpec) false w args)
  (Rows.treeOrdersSpec.post enc Tryz.prog Tryz.f7 false true false false):=by
 refine returnsInHanded_of_change_and (C:=Tryz.checked) (X:=fun w _=>laidMetH Tryz.prog [("banyan/sha.roundNumbers",Rows.laid_banyan_sha_roundNumbers),("math/bits.deBruijn64tab",Rows.laid_math_bits_deBruijn64tab)] w) (fun _ _ _ hh h=>h.of_heap hh) alX started (by kernel_rfl) Tryz.func7
  (ChangeSpec.witness_shaped (enc:=enc) (C:=Tryz.checked) (os:=os) (X:=fun w _=>laidMetH Tryz.prog [("banyan/sha.roundNumbers",Rows.laid_banyan_sha_roundNumbers),("math/bits.deBruijn64tab",Rows.laid_math_bits_deBruijn64tab)] w) false (World.doorLaid Tryz.prog 400 os) #[.slice none 0 0,.int .u8 0] 8 rfl (World.shaped_of_RefB (by kernel_rfl) (by kernel_rfl)) (by kernel_rfl) (by kernel_rfl) (by kernel_rfl) (Jk os _)) ?_
 intro W base args ds gs before hval0 hW _ hsz0 hL _
 have hval:∀ (j:Nat) t v,Tryz.f7.params[j]? = some t→args[j]? = some v→Value.okWide Tryz.prog W .any base t v:=hval0
 have hsz:(DataW.weightsEach Tryz.prog (Tryz.f7.params.toList++Rows.treeOrdersSpec.plain.varTypes Tryz.prog) (ds++gs)).all (· ≤ reachBytes)=true:=hsz0
 clear hsz0
 have hW':=hW
 obtain ⟨p,q,hA0,hV,rfl,hfz,hnd⟩:=hW
 have hA:DataW.TrodAll enc Tryz.prog W 0 (fun _=>true) true Tryz.f7.params.toList args.toList ds p:=hA0
 rw [Tryz.params7] at hA hval hsz
 obtain ⟨v0,vs0,d0,ds0,p0,q0,hargs,rfl,rfl,h0,r0⟩:=trodAll_cons hA
 obtain ⟨v1,vs1,d1,ds1,p1,q1,rfl,rfl,rfl,h1,r1⟩:=trodAll_cons r0
 obtain ⟨rfl,rfl,rfl⟩:=trodAll_nil r1
 obtain rfl:args=#[v0,v1]:=by cases args; simp_all
 obtain ⟨rfl,rfl⟩:=trodVars_none hV
 have k0:=h0
 have lt0:∀ x ∈ p0,x.block<W.heap.size:=by obtain ⟨m,hm⟩:=k0; exact DataW.trod_lt m _ _ _ hm
 have k1:=h1
 have lt1:∀ x ∈ p1,x.block<W.heap.size:=by obtain ⟨m,hm⟩:=k1; exact DataW.trod_lt m _ _ _ hm
 obtain ⟨x0,a0,len0,cap0,rfl,sl0⟩:=Jb (j:=0) Tryz.underlying22 Hl (hval 0 22 v0 rfl rfl) h0 hsz rfl rfl
 obtain ⟨z1,rfl,za1,zb1⟩:=aeO (j:=1) .u8 _ _ Tryz.underlying5 wf_u8 (hval 1 5 v1 rfl rfl) h1 hsz rfl rfl
 have hKT:=zt hL
 clear hA0 hval0
 refine (walk W a0 len0 cap0 x0 sl0 z1 za1 zb1 hKT.1 hKT.2).mono fun e W' ⟨he,bel⟩=>?_
 subst he
 exact ⟨_,rfl,_,_,_, [],_, [],hW',trodAll_mk1 (shut_bool Tryz.underlying4 _),(trodAll_cons_mk (Below.trod EC (by kernel_rfl) (of_decide_eq_true (by kernel_rfl)) k0 bel lt0) (trodAll_cons_mk (Below.trod EC (by kernel_rfl) (of_decide_eq_true (by kernel_rfl)) k1 bel lt1) trodAll_mk0)),rfl,bel.frame _,fun h=>by cases h⟩
theorem over:Rows.TreeOrdersSaid :=
 OpenClaim.holds_of_wide 7 Tryz.f7 rfl rfl rfl rfl rfl rfl rfl ⟨rfl,rfl,rfl,rfl,rfl⟩ rfl rfl rfl rfl rfl (by kernel_rfl) Tryz.func7 (by kernel_rfl)
  (of_decide_eq_true (by kernel_rfl)) (by unfold Func.isWrapper; first | (rw [if_pos (by decide +kernel)]; kernel_rfl) | (rw [if_neg (by decide +kernel)]; exact ⟨rfl,rfl⟩))
  (fun os started H enc _=>lifted os started H enc)
/-- The statement. -/
theorem proved:Rows.TreeOrdersCardSaid :=
 Claim7.holds_tied_plain_at .later [] [.data,.data] true (true, "9ad3d20c50d472851ffdac8307fffc9beef33574a5a2d28b2fee6535d13e0c7f") false
  over (fun _ h=>by cases h) (by kernel_rfl) (fun _ h=>by cases h) treeOrders_row_tie rfl ⟨rfl,rfl⟩ (by kernel_rfl) rfl
  (fun f fn hf hfn=>by
    obtain rfl:f=7:=Option.some.inj ((show Tryz.prog.funcNamed "banyan/banyanlaw14.TreeOrders" = some 7 by kernel_rfl).symm.trans hf) |>.symm;obtain rfl:fn=Tryz.f7:=(Option.some.inj (Tryz.func7.symm.trans hfn)).symm;exact ⟨by kernel_rfl,fun j t ht=>by
     rw [Tryz.params7] at ht;have hm:t ∈ [22,5]:=by simpa using Array.mem_of_getElem? ht
     have hall:([22,5].all fun u => !Tryz.prog.wantsStandIn u)=true:=by kernel_rfl
     exact (show Tryz.prog.wantsStandIn t=false by simpa using List.all_eq_true.1 hall t hm)⟩)
  (by kernel_rfl)
#print axioms proved
end Go.Proofs.YtljjcbmkbmloaaaGreatDoor.treeOrders
