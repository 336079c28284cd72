import Derived.Test.YtljjcbmkbmloaaaGreatDoorGTu5
import Derived.Test.YtljjcbmkbmloaaaGreatDoorGTu9
namespace Go.Proofs.YtljjcbmkbmloaaaGreatDoor
set_option maxRecDepth 4000
set_option linter.unusedVariables false
open Go.ChangeShapes Go.WideShapes Go.ChangeAt Go.RowKit
theorem Jk (os:Os)(args:Array Value):laidMetH Tryz.prog [("banyan/sha.roundNumbers",Rows.laid_banyan_sha_roundNumbers),("math/bits.deBruijn64tab",Rows.laid_math_bits_deBruijn64tab)] ((World.doorLaid Tryz.prog 400 os).forCall (fun _ _=>0) ⟨#[],args, []⟩).memory :=
 laidMetH_of_parts3 (fuel:=8) (laidMet_of_run' 8 (by kernel_rfl) (by kernel_rfl)) (by kernel_rfl) (by kernel_rfl)
theorem zt {W:World}(h:laidMetH Tryz.prog [("banyan/sha.roundNumbers",Rows.laid_banyan_sha_roundNumbers),("math/bits.deBruijn64tab",Rows.laid_math_bits_deBruijn64tab)] W):KT W∧TZ W:=by
 rw [MakeChecks.laidMetH_plain _ _ _ (by kernel_rfl)] at h;obtain ⟨ps,⟨g0,t0,cs0,f0,p0,q0,hg0,ht0,hv0,hd0,⟨g1,t1,cs1,f1,p1,q1,hg1,ht1,hv1,hd1,_,_⟩,_⟩,_,_⟩:=h;refine ⟨?_, ?_⟩
 ·obtain rfl:=Option.some.inj (aeE.symm.trans hg0)
  obtain rfl:=Option.some.inj (aeF.symm.trans ht0);have hcell:=World.var?_cell hg0 hv0;obtain ⟨xs,m,rfl,hx,hlen,hn,hel⟩:=DataW.trod_array Tryz.underlying247 hd0;have c1:Tryz.prog.cellsOf 46=1:=by kernel_rfl
  have hmap:xs.map (fun x=>x.fst)=aay:=by
   have:=congrArg Prod.fst hx;rw [aeG] at this;injection this with this;exact this.symm
  have key:∀ i,i<64→W.cell? ⟨2,i,none⟩=some (.int .u32 (wv (KS.getD i 0))):=by
   intro i hi;have h0:=hel i hi;rw [c1,Nat.mul_one] at h0;obtain ⟨y,hy⟩:∃ y,xs[i]? = some y:=⟨_,List.getElem?_eq_getElem (by omega)⟩
   rw [hy] at h0;obtain ⟨n,e1,e2,_⟩:=DataW.trod_int Tryz.underlying46 h0;have e3:(xs.map (fun x=>x.fst))[i]? = some (.lit (.int .u32 n)):=by rw [List.getElem?_map,hy,e2]; rfl
   rw [hmap] at e3;unfold aay at e3;rw [List.getElem?_map,List.getElem?_eq_getElem (by rw [I8]; exact hi)] at e3;simp only [Option.map_some,Option.some.injEq,DataW.lit.injEq,Lit.int.injEq,true_and] at e3;rw [hcell i];have e4:cs0.toList[i]? = some (.int .u32 n):=by
    have:=congrArg (fun l=>l[0]?) e1;simpa using this
   rw [← Array.getElem?_toList,e4,← e3];simp [I8,hi]
  exact ⟨block_lt_of_cell (key 0 (by decide)),key⟩
 obtain rfl:=Option.some.inj (gTab.symm.trans hg1);obtain rfl:=Option.some.inj (apl.symm.trans ht1);have hcell:=World.var?_cell hg1 hv1;obtain ⟨xs,m,rfl,hx,hlen,hn,hel⟩:=DataW.trod_array Tryz.underlying196 hd1;have c1:Tryz.prog.cellsOf 5=1:=by kernel_rfl
 have hmap:xs.map (fun x=>x.fst)=aa9:=by
  have:=congrArg Prod.fst hx;rw [XY] at this;injection this with this;exact this.symm
 intro i hi;have h0:=hel i hi;rw [c1,Nat.mul_one] at h0;obtain ⟨y,hy⟩:∃ y,xs[i]? = some y:=⟨_,List.getElem?_eq_getElem (by omega)⟩
 rw [hy] at h0;obtain ⟨n,e1,e2,_⟩:=DataW.trod_int Tryz.underlying5 h0;have e3:(xs.map (fun x=>x.fst))[i]? = some (.lit (.int .u8 n)):=by rw [List.getElem?_map,hy,e2]; rfl
 have hl:i<Lib.deBruijn64tab.length:=hi;rw [hmap] at e3;unfold aa9 at e3;rw [List.getElem?_map,List.getElem?_eq_getElem hl] at e3;simp only [Option.map_some,Option.some.injEq,DataW.lit.injEq,Lit.int.injEq,true_and] at e3;rw [hcell i];have e4:cs1.toList[i]? = some (.int .u8 n):=by
  have:=congrArg (fun l=>l[0]?) e1;simpa using this
 rw [← Array.getElem?_toList,e4,← e3];simp [hl]
end Go.Proofs.YtljjcbmkbmloaaaGreatDoor
