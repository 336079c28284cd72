import Derived.Test.YtljjcbmkbmloaaaGreatDoorGTu27
import Derived.Test.YtljjcbmkbmloaaaGreatDoorGTuA
namespace Go.Proofs.YtljjcbmkbmloaaaGreatDoor
set_option maxHeartbeats 3200000
set_option maxRecDepth 100000
set_option linter.unusedVariables false
section
open Go.ChangeShapes Go.WideShapes Go.ChangeAt Go.RowKit
theorem Nj (W:World):(Instr.buildSlice 30 0 #[]).run Tryz.prog W = .ok (.slice (some ⟨W.heap.size,0,none⟩) 0 0) (W.alloc (.cells #[] 75)):=by
 obtain ⟨i,hi,hz⟩:=Option.map_eq_some_iff.1 D7;simp only [Prod.mk.injEq] at hz;obtain ⟨h1,h2,h3⟩:=hz;simp [Instr.buildSlice,run_underlying Tryz.underlying30,sizeOf,typeInfo,hi,newRow,Instr.fill];congr 2;exact Array.eq_empty_of_size_eq_zero (by simp)
theorem uu (W:World)(B:Nat)(hB:B≤W.heap.size):sJ (W.alloc (.cells #[] 75)) B (.slice (some ⟨W.heap.size,0,none⟩) 0 0) [] :=
 ⟨rfl,.inr ⟨W.heap.size,0,#[],rfl,hB,ah W _,Nat.le_refl _,Nat.zero_le _,rfl,rfl⟩⟩
theorem Qd.part {w:World}{g o:Nat}{K:List bH}(h:Qd w (some ⟨g,o,none⟩) K)(i n:Nat):∀ j y,(gI ((K.drop i).take n))[j]? = some y→w.cell? ((⟨g,o+i * 2,none⟩:Addr).add j)=some y:=by
 intro j y hy;have hj:=(List.getElem?_eq_some_iff.1 hy).1;rw [ui] at hj;have hj2:j / 2<((K.drop i).take n).length:=by omega
 obtain ⟨x,hx⟩:∃ x,((K.drop i).take n)[j / 2]? = some x:=⟨_,List.getElem?_eq_getElem hj2⟩
 have hk:=sJ.ks.zT _ _ _ hx;have hx2:K[i+j / 2]? = some x:=by
  rw [List.getElem?_take] at hx;split at hx
  ·rw [List.getElem?_drop] at hx; exact hx
  cases hx
 obtain ⟨g',o',e,q1,q2⟩:=h.at_ _ x hx2;injection e with e;injection e with e1 e2;subst e1 e2;rw [Addr.add_mid];rcases Nat.mod_two_eq_zero_or_one j with e | e
 ·have e3:j=j / 2 * 2:=by omega
  rw [e3,hk.1] at hy;injection hy with hy;rw [← hy,show o+i * 2+j=o+(i+j / 2) * 2 by omega];exact q1
 have e3:j=j / 2 * 2+1:=by omega
 rw [e3,hk.2] at hy;injection hy with hy;rw [← hy,show o+i * 2+j=o+(i+j / 2) * 2+1 by omega];exact q2
theorem jJ {w:World}{B:Nat}{v:Value}{K M:List bH}(h:sJ w B v K)(hB:B≤w.heap.size)(u:Addr)(c:Nat)(hu:∀ j y,(gI M)[j]? = some y→w.cell? (u.add j)=some y)(hn:K.length+M.length≤1000000)(ty:TypeId) :
 ∃ v' w',(Builtin.append_ #[30,30] ty #[v,.slice (some u) M.length c]).run Tryz.prog w = .ok v' w'∧sJ w' B v' (K++M)∧w.grownBy w' v.ownBlock∧(v'.ownBlock=v.ownBlock∨v'.ownBlock=some w.heap.size):=by
 obtain ⟨i,hi,hz⟩:=Option.map_eq_some_iff.1 D7
 simp only [Prod.mk.injEq] at hz
 obtain ⟨h1,h2,h3⟩:=hz
 obtain ⟨v',w',hr,ho,hg,_,hnb⟩:=run_append_own_at (P:=Tryz.prog) w B 30 ty 75 i _ 2 32 Tryz.underlying30 hi h1 h2 h3 rfl (by decide) v K.length (gI K) h u M.length c (gI M) (ui M) hu (Gi M) (by unfold maxLen; omega) (by omega) hB
 exact ⟨v',w',hr,by unfold sJ; rw [Gh,List.length_append]; exact ho,hg,hnb⟩
theorem ajp {K:List bH}{k:ByteArray}{i:Nat}(hr:jg K)(h:AtL K k i)(v:ByteArray):K.take i++(k,v)::K.drop (if ou K k i=true then i+1 else i)=ja k v K:=by
 have hA:∀ x ∈ K.take i,lo x.1 k=true:=fun x hx=>by
  obtain ⟨j,hj,rfl⟩:=List.getElem_of_mem hx;rw [List.length_take] at hj;rw [List.getElem_take];exact h.ahead j K[j] (by omega) (List.getElem?_eq_getElem (by omega))
 have hd:∀ (hi:i<K.length),∀ y ∈ K.drop (i+1),lo K[i].1 y.1=true:=fun hi y hy=>by
  have hp:(K.drop i).Pairwise (fun x y=>lo x.1 y.1=true):=List.Pairwise.sublist (List.drop_sublist i K) hr;rw [List.drop_eq_getElem_cons hi] at hp;exact (List.pairwise_cons.1 hp).1 y hy
 by_cases hi:i<K.length
 ·have hx:K[i]? = some K[i]:=List.getElem?_eq_getElem hi
  have e:K=K.take i++K[i]::K.drop (i+1):=by rw [← List.drop_eq_getElem_cons hi,List.take_append_drop]
  by_cases hk:K[i].1=k
  ·have hI:ou K k i=true:=by unfold ou; rw [hx]; exact decide_eq_true hk
   rw [if_pos hI];have:=FD k v K[i].2 (K.take i) (K.drop (i+1)) hA;rw [← hk] at this ⊢;exact (this.symm.trans (congrArg (ja K[i].1 v) e.symm))
  have hI:ou K k i=false:=by unfold ou; rw [hx]; exact decide_eq_false hk
  rw [hI];have h3:lo k K[i].1=true:=by
   rcases vJ k K[i].1 with q | q | q
   ·exact q
   ·exact absurd q.symm hk
   rw [h.stop _ hx] at q; cases q
  have:=LW k v (K.take i) (K.drop i) hA (fun y hy=>by
   rw [List.drop_eq_getElem_cons hi] at hy;rcases List.mem_cons.1 hy with rfl | hy
   ·exact h3
   exact iJ h3 (hd hi y hy))
  rw [List.take_append_drop] at this;exact this.symm
 have hI:ou K k i=false:=by unfold ou; rw [List.getElem?_eq_none (by omega)]
 rw [hI];have:=LW k v (K.take i) (K.drop i) hA (fun y hy=>by rw [List.drop_of_length_le (by omega)] at hy; cases hy);rw [List.take_append_drop] at this;exact this.symm
theorem ajq {K:List bH}{k:ByteArray}{i:Nat}(hr:jg K)(h:AtL K k i)(hI:ou K k i=true):K.take i++K.drop (i+1)=delS k K:=by
 have hA:∀ x ∈ K.take i,lo x.1 k=true:=fun x hx=>by
  obtain ⟨j,hj,rfl⟩:=List.getElem_of_mem hx;rw [List.length_take] at hj;rw [List.getElem_take];exact h.ahead j K[j] (by omega) (List.getElem?_eq_getElem (by omega))
 by_cases hi:i<K.length
 ·have hx:K[i]? = some K[i]:=List.getElem?_eq_getElem hi
  have e:K=K.take i++K[i]::K.drop (i+1):=by rw [← List.drop_eq_getElem_cons hi,List.take_append_drop]
  have hk:K[i].1=k:=by
   unfold ou at hI;rw [hx] at hI;exact of_decide_eq_true hI
  have:=FH k K[i].2 (K.take i) (K.drop (i+1)) hA;rw [← hk] at this ⊢;exact (this.symm.trans (congrArg (delS K[i].1) e.symm))
 unfold ou at hI;rw [List.getElem?_eq_none (by omega)] at hI;cases hI
theorem Nk {R:Rt}(h:R.wf):jg R.cn:=by
 cases R with
 | none=>exact List.Pairwise.nil
 | some q =>
   obtain ⟨d,T⟩:=q;have hw:l7 d T aY aY:=h;exact (wP d (its T) aY aY hw.1).2
theorem adC {R:Rt}(h:R.wf)(hR:R ≠ none):2 ^ R.dp≤R.cn.length:=by
 cases R with
 | none=>exact absurd rfl hR
 | some q =>
   obtain ⟨d,T⟩:=q;exact pO d T aY aY h
end
section
open Lib (hid)
open Go.ChangeShapes Go.WideShapes Go.ChangeAt Go.RowKit
def adD (may:Bool)(K':List bH)(w:World)(e:Ending)(w':World):Prop :=
 (if may=true then ∃ v',e = .returned (.tuple #[.agg #[v'],.int .i64 0])∧sJ w' w.heap.size v' K' else e = .returned (.tuple #[.agg #[.slice none 0 0],.int .i64 2]))∧Below w.heap.size w w'
theorem qc {w w2 w5:World}{x:Value}{K':List bH}(hb2:Below w.heap.size w w2)(hr:w2.heap[w.heap.size+1]? = some (.cells #[.slice none 0 0] 32 (0,0)))(hb5:Below w2.heap.size w2 w5)(ho:sJ w5 w2.heap.size x K') :
 adD true K' w (.returned (.tuple #[.agg #[x],.int .i64 0])) (w5.setCell ⟨w.heap.size+1,0,none⟩ x)∧(w5.setCell ⟨w.heap.size+1,0,none⟩ x).heap[w.heap.size+1]? = some (.cells #[x] 32 (0,0)):=by
 have hl:=lt_of_block hr
 have h5:w5.heap[w.heap.size+1]? = some (.cells [.slice none 0 0].toArray 32 (0,0)):=(hb5.block _ hl).trans hr
 have ht:=aV w5 (w.heap.size+1) 0 x
 refine ⟨⟨?_,bC (aJ hb2 hb5) ht (by omega)⟩,fC h5 0 x⟩
 rw [if_pos rfl]
 refine ⟨x,rfl,(ho.move (fun g hg=>ht.block g (World.ownsRow.lt ho g hg).2 ?_)).low hb2.size⟩
 have:=(World.ownsRow.lt ho g hg).1
 simp only [List.mem_singleton]
 omega
theorem lT:(Tryz.prog.info? 32).map (·.size)=some 1:=by kernel_rfl
theorem Zo (g o c:Nat)(K:List bH)(k v:ByteArray)(w:World)(h:Qd w (some ⟨g,o,none⟩) K)(hn:K.length≤100000)(hcc:K.length≤c)(hr:jg K)(hk:k.size≤1000000)(hmk:jf k=true)(hv:v.size≤96) :
 Calls Tryz.prog 36 #[.agg #[.slice (some ⟨g,o,none⟩) K.length c],.string k,.string v] w fun e w'=>adD true (ja k v K) w e w':=by
 have HK:=hid h
 have HR:=hid hr
 have HB0:=hid (aJ (aK w (.cells #[.slice (some ⟨g,o,none⟩) K.length c] 32)) (aK _ (.cells #[.slice none 0 0] 32)))
 have HAT:=hid (fun W (hW:Below w.heap.size w W)=>Wv (some ⟨g,o,none⟩) c K k W (h.below hW) hn)
 have Ar:=hid (fun W=>rX k W hk)
 rw [hmk] at Ar
 have hn0:=ah w (.cells #[.slice (some ⟨g,o,none⟩) K.length c] 32)
 have b0:=ae (cell_of_row (w.alloc (.cells #[.slice (some ⟨g,o,none⟩) K.length c] 32)) w.heap.size 0 _ _ _ hn0) ((aK _ (.cells #[.slice none 0 0] 32)).block w.heap.size (lt_of_block hn0))
 have Cc:=hid b0
 have hn1:=ah (w.alloc (.cells #[.slice (some ⟨g,o,none⟩) K.length c] 32)) (.cells #[.slice none 0 0] 32)
 rw [show (w.alloc (.cells #[.slice (some ⟨g,o,none⟩) K.length c] 32)).heap.size=w.heap.size+1 by simp] at hn1
 have AY:=hid hn1
 obtain ⟨n,hnn⟩:∃ n,K.length=n:=⟨_,rfl⟩
 have HN:=hid hnn
 rw [hnn] at HAT HB0 Cc AY hcc ⊢
 have nI:(n:Int)≤100000:=by omega
 have cI:(n:Int)≤(c:Int):=by omega
 have vI:¬ ((96:Int)<(v.size:Int)):=by omega
 clear h hn hnn b0 hr hk hmk hn0 hn1
 go_in
 go_wp2_with fail
 refine (Ar.out _).mono ?_
 rintro e w1 ⟨rfl,hw1⟩
 subst hw1
 go_wp2_with fail
 refine (HAT.out _ HB0.out).mono ?_
 rintro e w2 ⟨i,hat,rfl,hb2⟩
 have HB2:=hid (aJ HB0.out hb2)
 have s0:=ae Cc.out (hb2.block _ (block_lt_of_cell Cc.out))
 have hpt:=ajp HR.out hat v
 have hil:=hat.le
 have aqu:=Nj
 rw [HN.out] at hil
 have iI:(i:Int)≤(n:Int):=by omega
 have i0:(0:Int)≤(i:Int):=by omega
 have LH:=hid hpt
 have Cf:=hid ((hb2.block _ (lt_of_block AY.out)).trans AY.out)
 clear hat hpt hb2
 have htl:(K.take i).length=i:=by rw [List.length_take,HN.out]; omega
 have hAP:=jJ (M:=K.take i) (uu w2 w2.heap.size (Nat.le_refl _)) (aK w2 (.cells #[] 75)).size ⟨g,o,none⟩ c (fun j y hy=>by
  have:=((HK.out.below HB2.out).below (aK w2 (.cells #[] 75))).part 0 i j y (by rw [List.drop_zero]; exact hy);rw [Nat.zero_mul,Nat.add_zero] at this;exact this) (by rw [htl]; simp only [List.length_nil]; omega) 30
 rw [htl,List.nil_append] at hAP
 have D9:=hid hAP
 have kZ:=hid htl
 clear hAP htl
 have s1:=ae s0 ((aK w2 (.cells #[] 75)).block _ (block_lt_of_cell s0))
 go_upto_region 5 with (at_builtin; obtain ⟨v3,w3,hr,ho3,hg3,_⟩:=D9.out; refine aS _ rfl _ _ 30 30 rfl _ _ rfl rfl hr ?_; have vO:=hid ho3; have HB3:=hid (kv_grown (uu w2 w2.heap.size (Nat.le_refl _)) hg3 (aK w2 _)); have HZ3:=hid (hg3.block w.heap.size (block_lt_of_cell s1) (by have:=HB0.out.size; have:=HB2.out.size; have:=block_lt_of_cell s0; intro e; injection e with e; dsimp only at e this; omega)); clear ho3 hg3 hr D9)
 have s3:=ae s1 HZ3.out
 obtain ⟨a3,c3,rfl,hc3⟩:=vO.out.shape
 have HL3:=hid kZ.out
 obtain ⟨m3,ZY⟩:∃ m,(K.take i).length=m:=⟨_,rfl⟩
 rw [ZY] at vO ⊢
 have s0':=s0
 clear s0 s1 hc3 ZY
 have hbk:=wV k v
 have hlk:=fun (u v:Value) (W:World)=>Gj u v W
 have hal3:=aK w3 (.cells #[.string k,.string v] 75)
 have s4:=ae s3 (hal3.block _ (block_lt_of_cell s3))
 have Zp:=hid (oM (M:=[(k,v)]) (vO.out.below hal3) (Nat.le_trans HB3.out.size hal3.size) (.slice (some ⟨w3.heap.size,0,none⟩) 1 1) (.inr ⟨_,1,rfl,fun j y hy=>df (cs:=[.string k,.string v]) (ah w3 _) j y hy⟩) (by rw [kZ.out]; simp only [List.length_cons,List.length_nil]; omega) 30)
 have Am:=hid hal3
 clear hal3 s3
 go_upto_region 6 with (at_builtin; obtain ⟨v4,w4,hr,ho4,hg4,ajr⟩:=Zp.out; refine aS _ rfl _ _ 30 30 rfl _ _ rfl rfl hr ?_; have DC:=hid ho4; have HB4:=hid (kv_grown (vO.out.below Am.out) hg4 (aJ HB3.out Am.out)); clear ho4 hg4 hr Zp ajr)
 have s5:=ae s0' (HB4.out.block _ (block_lt_of_cell s0'))
 obtain ⟨a4,c4,rfl,hc4⟩:=DC.out.shape
 obtain ⟨m4,hm4⟩:∃ m,(K.take i++[(k,v)]).length=m:=⟨_,rfl⟩
 rw [hm4] at DC ⊢
 clear hc4 hm4 s4
 cases hI:ou K k i with
 | true =>
   rw [hI] at LH;go_upto_region 8 with fail
   have hin:i<n:=by
    have:=HN.out;rcases Nat.lt_or_ge i K.length with q | q
    ·omega
    unfold ou at hI; rw [List.getElem?_eq_none q] at hI; cases hI
   have hdl:(K.drop (i+1)).length=n - (i+1):=by rw [List.length_drop,HN.out]
   have Sz:=(HK.out.below HB2.out).below HB4.out;have Nl:=jJ (M:=K.drop (i+1)) DC.out HB4.out.size ⟨g,o+(i+1) * 2,none⟩ (c - (i+1)) (fun j y hy=>Sz.part (i+1) (n - (i+1)) j y (by rw [← hdl,List.take_length]; exact hy)) (by
    rw [hdl,List.length_append,kZ.out]; simp only [List.length_cons,List.length_nil]; omega) 30
   rw [hdl] at Nl;have IX:=hid Nl;have hI1:(i:Int)+1≤(n:Int):=by omega
   have hI2:(i:Int)+1≤(c:Int):=by omega
   have hI3:(0:Int)≤(i:Int)+1:=by omega
   have htn:((i:Int)+1).toNat=i+1:=by omega
   by_cases hci:c=i+1
   ·have Vd:=jJ (M:=K.drop (i+1)) DC.out HB4.out.size ⟨g,o,none⟩ 0 (fun j y hy=>by
     rw [List.drop_of_length_le (by have:=HN.out; omega)] at hy;simp [gI] at hy) (by
     rw [hdl,List.length_append,kZ.out]; simp only [List.length_cons,List.length_nil]; omega) 30
    rw [hdl] at Vd;have adF:=hid Vd;clear Vd Nl IX hdl Sz;go_wp2_with (at_builtin; obtain ⟨v5,w5,hr,Gl,hg5,_⟩:=adF.out; refine aS _ rfl _ _ 30 30 rfl _ _ rfl rfl hr ?_; have zJ:=hid Gl; have gp:=hid (kv_grown DC.out hg5 HB4.out); have rb:=(gp.out.block _ (lt_of_block Cf.out)).trans Cf.out; have r0:=cell_of_row w5 (w.heap.size+1) 0 _ _ _ rb; have f0:=frozen_of_row w5 (w.heap.size+1) 0 _ _ rb; have ajs:=hid rb; clear Gl hg5 hr adF rb; obtain ⟨a5,c5,rfl,hc5⟩:=zJ.out.shape; obtain ⟨m5,uC⟩:∃ m,(K.take i++[(k,v)]++K.drop (i+1)).length=m:=⟨_,rfl⟩; rw [uC] at zJ; try rw [uC]; clear hc5)
    have he:=qc HB2.out Cf.out gp.out zJ.out;rw [show K.take i++[(k,v)]++K.drop (i+1)=ja k v K by rw [← LH.out]; simp] at he;refine bodyPost_ret (v := .tuple #[.agg #[.slice a5 m5 c5],.int .i64 0]) (aj Tryz.results36 _ _ (w.heap.size+1) 32 #[.slice a5 m5 c5] (0,0) _ rfl he.2 Tryz.underlying32 rfl lT _ (by simp)) rfl he.1
   clear Nl hdl Sz hin;go_wp2_with (at_builtin; obtain ⟨v5,w5,hr,Gl,hg5,_⟩:=IX.out; refine aS _ rfl _ _ 30 30 rfl _ _ rfl rfl hr ?_; have zJ:=hid Gl; have gp:=hid (kv_grown DC.out hg5 HB4.out); have rb:=(gp.out.block _ (lt_of_block Cf.out)).trans Cf.out; have r0:=cell_of_row w5 (w.heap.size+1) 0 _ _ _ rb; have f0:=frozen_of_row w5 (w.heap.size+1) 0 _ _ rb; have ajs:=hid rb; clear Gl hg5 hr IX rb; obtain ⟨a5,c5,rfl,hc5⟩:=zJ.out.shape; obtain ⟨m5,uC⟩:∃ m,(K.take i++[(k,v)]++K.drop (i+1)).length=m:=⟨_,rfl⟩; rw [uC] at zJ; try rw [uC]; clear hc5)
   have he:=qc HB2.out Cf.out gp.out zJ.out;rw [show K.take i++[(k,v)]++K.drop (i+1)=ja k v K by rw [← LH.out]; simp] at he;refine bodyPost_ret (v := .tuple #[.agg #[.slice a5 m5 c5],.int .i64 0]) (aj Tryz.results36 _ _ (w.heap.size+1) 32 #[.slice a5 m5 c5] (0,0) _ rfl he.2 Tryz.underlying32 rfl lT _ (by simp)) rfl he.1
 | false =>
   rw [hI] at LH;go_upto_region 8 with fail
   have hdl:(K.drop i).length=n - i:=by rw [List.length_drop,HN.out]
   have Sz:=(HK.out.below HB2.out).below HB4.out;have Nl:=jJ (M:=K.drop i) DC.out HB4.out.size ⟨g,o+i * 2,none⟩ (c - i) (fun j y hy=>Sz.part i (n - i) j y (by rw [← hdl,List.take_length]; exact hy)) (by
    rw [hdl,List.length_append,kZ.out]; simp only [List.length_cons,List.length_nil]; omega) 30
   rw [hdl] at Nl;have IX:=hid Nl;have hI1:(i:Int)≤(n:Int):=by omega
   have hI2:(i:Int)≤(c:Int):=by omega
   have hI3:(0:Int)≤(i:Int):=by omega
   have htn:((i:Int)).toNat=i:=by omega
   by_cases hci:c=i
   ·have Vd:=jJ (M:=K.drop i) DC.out HB4.out.size ⟨g,o,none⟩ 0 (fun j y hy=>by
     rw [List.drop_of_length_le (by have:=HN.out; omega)] at hy;simp [gI] at hy) (by
     rw [hdl,List.length_append,kZ.out]; simp only [List.length_cons,List.length_nil]; omega) 30
    rw [hdl] at Vd;have adF:=hid Vd;clear Vd Nl IX hdl Sz;go_wp2_with (at_builtin; obtain ⟨v5,w5,hr,Gl,hg5,_⟩:=adF.out; refine aS _ rfl _ _ 30 30 rfl _ _ rfl rfl hr ?_; have zJ:=hid Gl; have gp:=hid (kv_grown DC.out hg5 HB4.out); have rb:=(gp.out.block _ (lt_of_block Cf.out)).trans Cf.out; have r0:=cell_of_row w5 (w.heap.size+1) 0 _ _ _ rb; have f0:=frozen_of_row w5 (w.heap.size+1) 0 _ _ rb; have ajs:=hid rb; clear Gl hg5 hr adF rb; obtain ⟨a5,c5,rfl,hc5⟩:=zJ.out.shape; obtain ⟨m5,uC⟩:∃ m,(K.take i++[(k,v)]++K.drop i).length=m:=⟨_,rfl⟩; rw [uC] at zJ; try rw [uC]; clear hc5)
    have he:=qc HB2.out Cf.out gp.out zJ.out;rw [show K.take i++[(k,v)]++K.drop i=ja k v K by rw [← LH.out]; simp] at he;refine bodyPost_ret (v := .tuple #[.agg #[.slice a5 m5 c5],.int .i64 0]) (aj Tryz.results36 _ _ (w.heap.size+1) 32 #[.slice a5 m5 c5] (0,0) _ rfl he.2 Tryz.underlying32 rfl lT _ (by simp)) rfl he.1
   clear Nl hdl Sz;go_wp2_with (at_builtin; obtain ⟨v5,w5,hr,Gl,hg5,_⟩:=IX.out; refine aS _ rfl _ _ 30 30 rfl _ _ rfl rfl hr ?_; have zJ:=hid Gl; have gp:=hid (kv_grown DC.out hg5 HB4.out); have rb:=(gp.out.block _ (lt_of_block Cf.out)).trans Cf.out; have r0:=cell_of_row w5 (w.heap.size+1) 0 _ _ _ rb; have f0:=frozen_of_row w5 (w.heap.size+1) 0 _ _ rb; have ajs:=hid rb; clear Gl hg5 hr IX rb; obtain ⟨a5,c5,rfl,hc5⟩:=zJ.out.shape; obtain ⟨m5,uC⟩:∃ m,(K.take i++[(k,v)]++K.drop i).length=m:=⟨_,rfl⟩; rw [uC] at zJ; try rw [uC]; clear hc5)
   have he:=qc HB2.out Cf.out gp.out zJ.out;rw [show K.take i++[(k,v)]++K.drop i=ja k v K by rw [← LH.out]; simp] at he;refine bodyPost_ret (v := .tuple #[.agg #[.slice a5 m5 c5],.int .i64 0]) (aj Tryz.results36 _ _ (w.heap.size+1) 32 #[.slice a5 m5 c5] (0,0) _ rfl he.2 Tryz.underlying32 rfl lT _ (by simp)) rfl he.1
def ajt (may:Bool)(c:Cg)(K:List bH)(w:World)(e:Ending)(w':World):Prop :=
 (if may=true then (c.err K ≠ 0∧e = .returned (.tuple #[.agg #[.slice none 0 0],.int .i64 (c.err K)])∨c.err K=0∧∃ v',e = .returned (.tuple #[.agg #[v'],.int .i64 0])∧sJ w' w.heap.size v' (c.app K)) else e = .returned (.tuple #[.agg #[.slice none 0 0],.int .i64 2]))∧Below w.heap.size w w'
theorem QW {W:World}{B:Nat}(hr:W.heap[B]? = some (.cells #[.slice none 0 0] 32 (0,0))) :
 (W.setCell ⟨B,0,none⟩ (.slice none 0 0)).heap[B]? = some (.cells #[.slice none 0 0] 32 (0,0))∧Touch [B] W (W.setCell ⟨B,0,none⟩ (.slice none 0 0)):=by
 have h':W.heap[B]? = some (.cells [.slice none 0 0].toArray 32 (0,0)):=hr
 exact ⟨fC h' 0 _,aV W B 0 _⟩
theorem Ef (w:World)(o1 o2:Obj):((w.alloc o1).alloc o2).heap[w.heap.size]? = some o1∧((w.alloc o1).alloc o2).heap[w.heap.size+1]? = some o2∧Below w.heap.size w ((w.alloc o1).alloc o2):=by
 have h0:=ah w o1;have h1:=ah (w.alloc o1) o2;rw [show (w.alloc o1).heap.size=w.heap.size+1 by simp] at h1;exact ⟨((aK (w.alloc o1) o2).block _ (lt_of_block h0)).trans h0,h1,aJ (aK w o1) (aK _ o2)⟩
theorem adG (sv:Value)(k v:ByteArray)(w:World)(hk:k.size≤1000000)(hv:v.size≤1000000)(hb:(jf k && decide (v.size≤96))=false) :
 Calls Tryz.prog 36 #[.agg #[sv],.string k,.string v] w fun e w'=>e = .returned (.tuple #[.agg #[.slice none 0 0],.int .i64 2])∧Below w.heap.size w w':=by
 obtain ⟨t0,t1,tb⟩:=Ef w (.cells #[sv] 32) (.cells #[.slice none 0 0] 32)
 have r0:=cell_of_row _ (w.heap.size+1) 0 _ _ _ t1
 have f0:=frozen_of_row _ (w.heap.size+1) 0 _ _ t1
 obtain ⟨e1,e2⟩:=QW t1
 have HE:=hid (And.intro t1 tb)
 have Ar:=hid (fun W=>rX k W hk)
 have vI:(v.size:Int)≤1000000:=by omega
 clear t0 t1 tb e1 e2 hk
 cases hmk:jf k with
 | false =>
   rw [hmk] at Ar;clear hb hmk;go_in;go_wp2_with fail;refine (Ar.out _).mono ?_;rintro e w1 ⟨rfl,hw1⟩;subst hw1;go_wp2_with fail;refine bodyPost_ret (v := .tuple #[.agg #[.slice none 0 0],.int .i64 2]) (aj Tryz.results36 _ _ (w.heap.size+1) 32 #[.slice none 0 0] (0,0) _ rfl HE.out.1 Tryz.underlying32 rfl lT _ (by simp)) rfl ⟨rfl,HE.out.2⟩
 | true =>
   rw [hmk] at Ar;have h2:¬ v.size≤96:=by rw [hmk] at hb; simpa using hb
   have h2I:(96:Int)<(v.size:Int):=by omega
   clear hb hmk h2;go_in;go_wp2_with fail;refine (Ar.out _).mono ?_;rintro e w1 ⟨rfl,hw1⟩;subst hw1;go_wp2_with fail;refine bodyPost_ret (v := .tuple #[.agg #[.slice none 0 0],.int .i64 2]) (aj Tryz.results36 _ _ (w.heap.size+1) 32 #[.slice none 0 0] (0,0) _ rfl HE.out.1 Tryz.underlying32 rfl lT _ (by simp)) rfl ⟨rfl,HE.out.2⟩
theorem at_nil {k:ByteArray}{i:Nat}(h:AtL [] k i):i=0:=Nat.le_zero.1 h.le
theorem adH (k v:ByteArray)(w:World)(hk:k.size≤1000000)(hmk:jf k=true)(hv:v.size≤96) :
 Calls Tryz.prog 36 #[.agg #[.slice none 0 0],.string k,.string v] w fun e w'=>adD true [(k,v)] w e w':=by
 obtain ⟨t0,t1,tb⟩:=Ef w (.cells #[.slice none 0 0] 32) (.cells #[.slice none 0 0] 32)
 have b0:=cell_of_row _ w.heap.size 0 _ _ _ t0
 have HB0:=hid tb
 have AY:=hid t1
 have Ar:=hid (fun W=>rX k W hk)
 rw [hmk] at Ar
 have HAT:=hid (fun W=>Wv none 0 [] k W ⟨fun i x hx=>by simp at hx⟩ (by simp))
 simp only [List.length_nil] at HAT
 have vI:¬ ((96:Int)<(v.size:Int)):=by omega
 have Cc:=hid b0
 clear t0 t1 tb hk hmk b0
 go_in
 go_wp2_with fail
 refine (Ar.out _).mono ?_
 rintro e w1 ⟨rfl,hw1⟩
 subst hw1
 have s0b:=Cc.out
 go_wp2_with fail
 refine (HAT.out _).mono ?_
 rintro e w2 ⟨i,hat,rfl,hb2⟩
 obtain rfl:=at_nil hat
 have HB2:=hid (aJ HB0.out hb2)
 have s0:=ae Cc.out (hb2.block _ (block_lt_of_cell Cc.out))
 have Cf:=hid ((hb2.block _ (lt_of_block AY.out)).trans AY.out)
 have Np:ou [] k 0=false:=rfl
 rw [Np]
 have aqu:=Nj
 clear hat hb2 Np s0b
 have D9:=hid (oM (M:=[]) (uu w2 w2.heap.size (Nat.le_refl _)) (aK w2 (.cells #[] 75)).size (.slice none 0 0) (.inl ⟨rfl,rfl⟩) (by simp) 30)
 have s1:=ae s0 ((aK w2 (.cells #[] 75)).block _ (block_lt_of_cell s0))
 go_upto_region 5 with (at_builtin; obtain ⟨v3,w3,hr,ho3,hg3,_⟩:=D9.out; refine aS _ rfl _ _ 30 30 rfl _ _ rfl rfl hr ?_; have vO:=hid ho3; have HB3:=hid (kv_grown (uu w2 w2.heap.size (Nat.le_refl _)) hg3 (aK w2 _)); clear ho3 hg3 hr D9)
 obtain ⟨a3,c3,rfl,hc3⟩:=vO.out.shape
 simp only [List.nil_append,List.length_nil] at vO ⊢
 have hbk:=wV k v
 have hlk:=fun (u v:Value) (W:World)=>Gj u v W
 have hal3:=aK w3 (.cells #[.string k,.string v] 75)
 have Zp:=hid (oM (M:=[(k,v)]) (vO.out.below hal3) (Nat.le_trans HB3.out.size hal3.size) (.slice (some ⟨w3.heap.size,0,none⟩) 1 1) (.inr ⟨_,1,rfl,fun j y hy=>df (cs:=[.string k,.string v]) (ah w3 _) j y hy⟩) (by simp) 30)
 simp only [List.nil_append] at Zp
 have Am:=hid hal3
 have s3:=ae s0 (HB3.out.block _ (block_lt_of_cell s0))
 clear hal3 hc3 s1
 go_upto_region 6 with (at_builtin; obtain ⟨v4,w4,hr,ho4,hg4,ajr⟩:=Zp.out; refine aS _ rfl _ _ 30 30 rfl _ _ rfl rfl hr ?_; have DC:=hid ho4; have HB4:=hid (kv_grown (vO.out.below Am.out) hg4 (aJ HB3.out Am.out)); clear ho4 hg4 hr Zp ajr)
 have s5:=ae s0 (HB4.out.block _ (block_lt_of_cell s0))
 obtain ⟨a4,c4,rfl,hc4⟩:=DC.out.shape
 simp only [List.length_cons,List.length_nil] at DC hc4 ⊢
 clear s3 s0
 have IX:=hid (oM (M:=[]) DC.out HB4.out.size (.slice none 0 0) (.inl ⟨rfl,rfl⟩) (by simp) 30)
 clear hc4
 go_wp2_with (at_builtin; obtain ⟨v5,w5,hr,Gl,hg5,_⟩:=IX.out; refine aS _ rfl _ _ 30 30 rfl _ _ rfl rfl hr ?_; have zJ:=hid Gl; have gp:=hid (kv_grown DC.out hg5 HB4.out); have rb:=(gp.out.block _ (lt_of_block Cf.out)).trans Cf.out; have r0:=cell_of_row w5 (w.heap.size+1) 0 _ _ _ rb; have f0:=frozen_of_row w5 (w.heap.size+1) 0 _ _ rb; clear Gl hg5 hr IX rb; obtain ⟨a5,c5,rfl,hc5⟩:=zJ.out.shape; obtain ⟨m5,uC⟩:∃ m,([(k,v)]++([]:List bH)).length=m:=⟨_,rfl⟩; rw [uC] at zJ; try rw [uC]; clear hc5)
 have he:=qc HB2.out Cf.out gp.out zJ.out
 rw [List.append_nil] at he
 refine bodyPost_ret (v := .tuple #[.agg #[.slice a5 m5 c5],.int .i64 0]) (aj Tryz.results36 _ _ (w.heap.size+1) 32 #[.slice a5 m5 c5] (0,0) _ rfl he.2 Tryz.underlying32 rfl lT _ (by simp)) rfl he.1
theorem adI (a:bO)(c:Nat)(K:List bH)(k v:ByteArray)(w:World)(h:Qd w a K)(ha:a=none→K=[]∧c=0)(hm:∀ p,a=some p→∃ g o,p=⟨g,o,none⟩)(hcc:K.length≤c)(hn:K.length≤100000)(hr:jg K)(hk:k.size≤1000000)(hv:v.size≤1000000) :
 Calls Tryz.prog 36 #[.agg #[.slice a K.length c],.string k,.string v] w fun e w'=>ajt (jf k && decide (v.size≤96)) (.put k v) K w e w':=by
 cases hmay:(jf k && decide (v.size≤96)) with
 | false=>exact (adG _ k v w hk hv hmay).mono fun e w' ⟨h1,h2⟩=>⟨h1,h2⟩
 | true =>
   rw [Bool.and_eq_true,decide_eq_true_eq] at hmay;have hc:Calls Tryz.prog 36 #[.agg #[.slice a K.length c],.string k,.string v] w fun e w'=>adD true (ja k v K) w e w':=by
    cases a with
    | none =>
      obtain ⟨rfl,rfl⟩:=ha rfl;exact adH k v w hk hmay.1 hmay.2
    | some p =>
      obtain ⟨g,o,rfl⟩:=hm p rfl;exact Zo g o c K k v w h hn hcc hr hk hmay.1 hmay.2
   refine hc.mono fun e w' ⟨h1,h2⟩=>⟨?_,h2⟩
   rw [if_pos rfl] at h1 ⊢;exact .inr ⟨rfl,h1⟩
theorem agt {K:List bH}{k:ByteArray}:vN k K=match nR k K with | []=>false | _::_=>true:=by
 unfold vN nR;induction K with
 | nil=>rfl
 | cons x r ih =>
   rw [List.any_cons,List.filter_cons];by_cases e:x.1=k
   ·simp [e]
   rw [decide_eq_false e,Bool.false_or,ih];simp
theorem QX (may:Bool)(a:bO)(c:Nat)(K:List bH)(k:ByteArray)(w:World)(h:Qd w a K)(hn:K.length≤100000)(hr:jg K)(hk:k.size≤1000000)(hmay:jf k=may)(hbad:may=false∨nR k K=[]) :
 Calls Tryz.prog 33 #[.agg #[.slice a K.length c],.string k] w fun e w'=>e = .returned (.tuple #[.agg #[.slice none 0 0],.int .i64 (if may=true then 8 else 2)])∧Below w.heap.size w w':=by
 obtain ⟨t0,t1,tb⟩:=Ef w (.cells #[.slice a K.length c] 32) (.cells #[.slice none 0 0] 32)
 have b0:=cell_of_row _ w.heap.size 0 _ _ _ t0
 have HB0:=hid tb
 have AY:=hid t1
 have HG:=hid (fun W (hW:Below w.heap.size w W)=>UE a c K k W (h.below hW) hn hr hk)
 rw [hmay] at HG
 obtain ⟨E,hE⟩:∃ E:Int,(if may=true then (8:Int) else 2)=E:=⟨_,rfl⟩
 have hE0:¬ E=0:=by subst hE; split <;> omega
 have HP:=hid (show ∀ e W w',GetPost may (nR k K) W e w'→e = .returned (.tuple #[.string aY,.int .i64 E])∧Below W.heap.size W w' from fun e W w' hg=>by
  refine ⟨?_,hg.2⟩;rw [hg.1,← hE];rcases hbad with rfl | e
  ·rfl
  rw [e];cases may <;> rfl)
 rw [hE]
 obtain ⟨n,hnn⟩:∃ n,K.length=n:=⟨_,rfl⟩
 rw [hnn] at HG AY HB0 b0 ⊢
 clear t0 t1 tb h hn hr hk hmay hbad hE hnn
 go_in
 go_wp2_with fail
 refine (HG.out _ HB0.out).mono ?_
 rintro e w1 hg
 obtain ⟨rfl,hb1⟩:=HP.out _ _ _ hg
 have HB1:=hid (aJ HB0.out hb1)
 have hr1:=(hb1.block _ (lt_of_block AY.out)).trans AY.out
 have r0:=cell_of_row _ (w.heap.size+1) 0 _ _ _ hr1
 have f0:=frozen_of_row _ (w.heap.size+1) 0 _ _ hr1
 have HR1:=hid hr1
 clear hg hb1 hr1 HG HP
 go_wp2_with fail
 obtain ⟨e1,e2⟩:=QW HR1.out
 first
  | (refine bodyPost_ret (v := .tuple #[.agg #[.slice none 0 0],.int .i64 E]) (aj Tryz.results33 _ _ (w.heap.size+1) 32 #[.slice none 0 0] (0,0) _ rfl e1 Tryz.underlying32 rfl lT _ (by simp)) rfl ⟨rfl,bC HB1.out e2 (by omega)⟩)
  | (refine bodyPost_ret (v := .tuple #[.agg #[.slice none 0 0],.int .i64 E]) (aj Tryz.results33 _ _ (w.heap.size+1) 32 #[.slice none 0 0] (0,0) _ rfl HR1.out Tryz.underlying32 rfl lT _ (by simp)) rfl ⟨rfl,HB1.out⟩)
theorem Zq (g o c:Nat)(K:List bH)(k:ByteArray)(w:World)(h:Qd w (some ⟨g,o,none⟩) K)(hn:K.length≤100000)(hcc:K.length≤c)(hr:jg K)(hk:k.size≤1000000)(hmk:jf k=true)(x:bH)(r:List bH)(hx:nR k K=x::r) :
 Calls Tryz.prog 33 #[.agg #[.slice (some ⟨g,o,none⟩) K.length c],.string k] w fun e w'=>adD true (delS k K) w e w':=by
 obtain ⟨t0,t1,tb⟩:=Ef w (.cells #[.slice (some ⟨g,o,none⟩) K.length c] 32) (.cells #[.slice none 0 0] 32)
 have b0:=cell_of_row _ w.heap.size 0 _ _ _ t0
 have HB0:=hid tb
 have AY:=hid t1
 have HK:=hid h
 have HR:=hid hr
 have HX:=hid hx
 have HG:=hid (fun W (hW:Below w.heap.size w W)=>UE (some ⟨g,o,none⟩) c K k W (h.below hW) hn hr hk)
 rw [hmk,hx] at HG
 have HAT:=hid (fun W (hW:Below w.heap.size w W)=>Wv (some ⟨g,o,none⟩) c K k W (h.below hW) hn)
 have Cc:=hid b0
 obtain ⟨n,hnn⟩:∃ n,K.length=n:=⟨_,rfl⟩
 have HN:=hid hnn
 rw [hnn] at HG AY HB0 Cc HAT hcc hn ⊢
 have nI:(n:Int)≤100000:=by omega
 have cI:(n:Int)≤(c:Int):=by omega
 clear t0 t1 tb h hn hr hk hmk hx hnn b0
 go_in
 have b1:=Cc.out
 go_wp2_with fail
 refine (HG.out _ HB0.out).mono ?_
 rintro e w1 ⟨rfl,hb1⟩
 have HB1:=hid (aJ HB0.out hb1)
 have s1:=ae Cc.out (hb1.block _ (block_lt_of_cell Cc.out))
 have HR1:=hid ((hb1.block _ (lt_of_block AY.out)).trans AY.out)
 simp only [if_true]
 clear hb1 HG b1
 go_wp2_with fail
 refine (HAT.out _ HB1.out).mono ?_
 rintro e w2 ⟨i,hat,rfl,hb2⟩
 have hget:=Wx HR.out hat
 rw [HX.out] at hget
 have Np:ou K k i=true:=by
  unfold ou;revert hget
  cases hxi:K[i]? with
  | none=>intro h; cases h
  | some y =>
    intro h;by_cases e:y.1=k
    ·exact decide_eq_true e
    dsimp only at h; rw [if_neg e] at h; cases h
 have HDA:=hid (ajq HR.out hat Np)
 have hin:i<n:=by
  rcases Nat.lt_or_ge i K.length with q | q
  ·rw [← HN.out]; exact q
  unfold ou at Np; rw [List.getElem?_eq_none q] at Np; cases Np
 rw [Np]
 have HB2:=hid (aJ HB1.out hb2)
 have s0:=ae s1 (hb2.block _ (block_lt_of_cell s1))
 clear s1
 have Cf:=hid ((hb2.block _ (lt_of_block HR1.out)).trans HR1.out)
 have HLI:=hid Nj
 have HIN:=hid hin
 have iI:(i:Int)<(n:Int):=by omega
 have i0:(0:Int)≤(i:Int):=by omega
 have ic:(i:Int)≤(c:Int):=by omega
 have hI1:(i:Int)+1≤(n:Int):=by omega
 have hI2:(i:Int)+1≤(c:Int):=by omega
 have hI3:(0:Int)≤(i:Int)+1:=by omega
 have HCC:=hid hcc
 have hw1:IntKind.i64.wrap ((i:Int)+1)=(i:Int)+1:=IntWalk.i64_in _ (by omega)
 have htl:(K.take i).length=i:=by rw [List.length_take,HN.out]; omega
 have kZ:=hid htl
 have hdl:(K.drop (i+1)).length=n - (i+1):=by rw [List.length_drop,HN.out]
 have HDL:=hid hdl
 have HK2:=hid (HK.out.below HB2.out)
 have ic1:(i:Int)≤(i:Int)+1:=by omega
 have htn:((i:Int)+1).toNat=i+1:=by omega
 have hAP:=jJ (M:=K.take i) (uu w2.drew w2.drew.heap.size (Nat.le_refl _)) (aK w2.drew (.cells #[] 75)).size ⟨g,o,none⟩ c (fun j y hy=>by
  have:=((HK2.out.below (Below.refl _ w2).drew).below (aK w2.drew (.cells #[] 75))).part 0 i j y (by rw [List.drop_zero]; exact hy);rw [Nat.zero_mul,Nat.add_zero] at this;exact this) (by rw [htl]; simp only [List.length_nil]; omega) 30
 rw [htl,List.nil_append] at hAP
 have D9:=hid hAP
 have s1:=ae s0 ((aK w2.drew (.cells #[] 75)).block _ (block_lt_of_cell s0))
 clear hAP
 clear hat hget Np hin htl hdl hb2 hcc
 go_upto_region 5 with fail
 by_cases hci:c=i+1
 ·obtain rfl:=hci
  try simp only [Act.put]
  refine wp_region_noPanic ?_;refine wp_region_held_drew (S:=fun W=>W.cell? ⟨w.heap.size,0,none⟩=some (.slice (some ⟨g,o,none⟩) n (i+1))) (by kernel_rfl) s0 (fun hHeld=>?_);refine tR 1 27 (h:=?_);refine tK 2 28 (.slice (some ⟨g,o,none⟩) n (i+1)) rfl (Or.inl ⟨by rfl, ?_⟩) ?_
  ·(intro w' hSw; have q0:=hSw; go_simp; try with_reducible rfl)
  try simp only [Act.put,pZ]
  refine tR 3 29 (h:=?_);refine tK 4 30 ?_ rfl (Or.inl ⟨by rfl, ?_⟩) ?_;rotate_left 1
  ·(intro w' hSw; have q0:=ic1; have q1:=ic; go_simp; try with_reducible rfl)
  try simp only [Act.put,pZ]
  refine tR 6 32 (h:=?_);refine tK 7 33 (.slice (some ⟨g,o,none⟩) n (i+1)) rfl (Or.inl ⟨by rfl, ?_⟩) ?_
  ·(intro w' hSw; have q0:=hSw; go_simp; try with_reducible rfl)
  try simp only [Act.put,pZ]
  refine tR 8 34 (h:=?_);refine tK 9 35 (.int .i64 ((i:Int)+1)) rfl (Or.inl ⟨by rfl, ?_⟩) ?_
  ·(intro w' hSw; have q0:=hw1; go_simp; try with_reducible rfl)
  try simp only [Act.put,pZ]
  refine tK 10 36 (.slice (some ⟨g,o,none⟩) (n - (i+1)) 0) rfl (Or.inl ⟨by rfl, ?_⟩) ?_
  ·(intro w' hSw; have q1:=htn; go_simp; try with_reducible rfl)
  try simp only [Act.put,pZ]
  refine rD 0 rfl fun K9 hK=>?_;have q0:=HLI.out;go_simp;refine hK.out _ _ s1 (fun hHeld=>?_);clear hK K9 q0;try simp only [Act.put,pZ]
  refine rD 5 rfl fun K9 hK=>?_;obtain ⟨v3,w3,hr,ho3,hg3,_⟩:=D9.out;refine kK rfl _ _ 30 30 rfl (.slice (some ⟨w2.heap.size,0,none⟩) 0 0) (.slice (some ⟨g,o,none⟩) i (i+1)) (by rfl) (by rfl) hr ?_;have hb3:=kv_grown (uu w2.drew w2.drew.heap.size (Nat.le_refl _)) hg3 (aK w2.drew _);have HB3:=hid (aJ (Below.refl _ w2).drew hb3);have s3:=ae s1 (hg3.block w.heap.size (block_lt_of_cell s1) (by have:=HB0.out.size; have:=HB2.out.size; have:=block_lt_of_cell s0; intro e; injection e with e; dsimp only [World.drew] at e this; omega));have vO:=hid ho3;have HD3:=hid hb3;obtain ⟨a3,c3,rfl,hc3⟩:=vO.out.shape;clear ho3 hg3 hr hb3;have adJ:=jJ (M:=K.drop (i+1)) vO.out (Nat.le_trans (by simp) HB3.out.size) ⟨g,o,none⟩ 0 (fun j y hy=>by
   rw [List.drop_of_length_le (by have:=HN.out; omega)] at hy;simp [gI] at hy) (by rw [HDL.out,kZ.out]; omega) 30
  rw [HDL.out] at adJ;obtain ⟨v4,w4,hr,ho4,hg4,_⟩:=adJ;rw [kZ.out] at hr ⊢;refine hK.out _ _ s3 (fun hHeld=>?_);clear hK K9;try simp only [Act.put,List.setIfInBounds_toArray]
  refine rD 11 rfl fun K9 hK=>?_;refine kK rfl _ _ 30 30 rfl (.slice a3 i c3) (.slice (some ⟨g,o,none⟩) (n - (i+1)) 0) (by rfl) (by rfl) hr ?_;have hb4:=kv_grown vO.out hg4 HD3.out;have HB4:=hid (show Below w2.heap.size w2 w4 from aJ (Below.refl _ w2).drew hb4);have DC:=hid (show sJ w4 w2.heap.size _ _ from ho4);clear ho4 hg4 hr hb4;obtain ⟨a4,c4,rfl,hc4⟩:=DC.out.shape;obtain ⟨m4,hm4⟩:∃ m,(K.take i++K.drop (i+1)).length=m:=⟨_,rfl⟩
  rw [hm4] at DC ⊢;clear hc4 hc3;have rb:=(HB4.out.block _ (lt_of_block Cf.out)).trans Cf.out;have r0:=cell_of_row w4 (w.heap.size+1) 0 _ _ _ rb;have f0:=frozen_of_row w4 (w.heap.size+1) 0 _ _ rb;have s4:=ae s0 (HB4.out.block _ (block_lt_of_cell s0));have he:=qc HB2.out Cf.out HB4.out DC.out;rw [HDA.out] at he;have HE:=hid he;have s5:=(World.cell?_of_block ((aV w4 (w.heap.size+1) 0 (.slice a4 m4 c4)).block w.heap.size (block_lt_of_cell s4) (by simp))).trans s4;clear he rb;refine hK.out _ _ s4 (fun hHeld=>?_);clear hK K9;try simp only [Act.put]
  refine tR 12 38 (h:=?_);refine rD 13 rfl fun K9 hK=>?_;go_simp;refine hK.out _ _ s5 (fun hHeld=>?_);clear hK K9;try simp only [Act.put,pZ]
  refine tR 14 5 (h:=?_);refine wpAnyH_done (by decide +kernel) ?_ _;refine NoPanic.normal ?_;clear s4 s5 r0 f0 s0 s1 s3 hHeld;go_wp2_with fail;refine bodyPost_ret (v := .tuple #[.agg #[.slice a4 m4 c4],.int .i64 0]) (aj Tryz.results33 _ _ (w.heap.size+1) 32 #[.slice a4 m4 c4] (0,0) _ rfl HE.out.2 Tryz.underlying32 rfl lT _ (by simp)) rfl HE.out.1
 ·try simp only [Act.put]
  refine wp_region_noPanic ?_;refine wp_region_held_drew (S:=fun W=>W.cell? ⟨w.heap.size,0,none⟩=some (.slice (some ⟨g,o,none⟩) n c)) (by kernel_rfl) s0 (fun hHeld=>?_);refine tR 1 27 (h:=?_);refine tK 2 28 (.slice (some ⟨g,o,none⟩) n c) rfl (Or.inl ⟨by rfl, ?_⟩) ?_
  ·(intro w' hSw; have q0:=hSw; go_simp; try with_reducible rfl)
  try simp only [Act.put,pZ]
  refine tR 3 29 (h:=?_);refine tK 4 30 ?_ rfl (Or.inl ⟨by rfl, ?_⟩) ?_;rotate_left 1
  ·(intro w' hSw; have q0:=ic1; have q1:=ic; go_simp; try with_reducible rfl)
  try simp only [Act.put,pZ]
  refine tR 6 32 (h:=?_);refine tK 7 33 (.slice (some ⟨g,o,none⟩) n c) rfl (Or.inl ⟨by rfl, ?_⟩) ?_
  ·(intro w' hSw; have q0:=hSw; go_simp; try with_reducible rfl)
  try simp only [Act.put,pZ]
  refine tR 8 34 (h:=?_);refine tK 9 35 (.int .i64 ((i:Int)+1)) rfl (Or.inl ⟨by rfl, ?_⟩) ?_
  ·(intro w' hSw; have q0:=hw1; go_simp; try with_reducible rfl)
  try simp only [Act.put,pZ]
  refine tK 10 36 (.slice (some ⟨g,o+(i+1) * 2,none⟩) (n - (i+1)) (c - (i+1))) rfl (Or.inl ⟨by rfl, ?_⟩) ?_
  ·(intro w' hSw; have q0:=hci; have q1:=htn; go_simp; try with_reducible rfl)
  try simp only [Act.put,pZ]
  refine rD 0 rfl fun K9 hK=>?_;have q0:=HLI.out;go_simp;refine hK.out _ _ s1 (fun hHeld=>?_);clear hK K9 q0;try simp only [Act.put,pZ]
  refine rD 5 rfl fun K9 hK=>?_;obtain ⟨v3,w3,hr,ho3,hg3,_⟩:=D9.out;refine kK rfl _ _ 30 30 rfl (.slice (some ⟨w2.heap.size,0,none⟩) 0 0) (.slice (some ⟨g,o,none⟩) i c) (by rfl) (by rfl) hr ?_;have hb3:=kv_grown (uu w2.drew w2.drew.heap.size (Nat.le_refl _)) hg3 (aK w2.drew _);have HB3:=hid (aJ (Below.refl _ w2).drew hb3);have s3:=ae s1 (hg3.block w.heap.size (block_lt_of_cell s1) (by have:=HB0.out.size; have:=HB2.out.size; have:=block_lt_of_cell s0; intro e; injection e with e; dsimp only [World.drew] at e this; omega));have vO:=hid ho3;have HD3:=hid hb3;obtain ⟨a3,c3,rfl,hc3⟩:=vO.out.shape;clear ho3 hg3 hr hb3;have adJ:=jJ (M:=K.drop (i+1)) vO.out (Nat.le_trans (by simp) HB3.out.size) ⟨g,o+(i+1) * 2,none⟩ (c - (i+1)) (fun j y hy=>(HK2.out.below HB3.out).part (i+1) (n - (i+1)) j y (by rw [← HDL.out,List.take_length]; exact hy)) (by rw [HDL.out,kZ.out]; omega) 30;rw [HDL.out] at adJ;obtain ⟨v4,w4,hr,ho4,hg4,_⟩:=adJ;rw [kZ.out] at hr ⊢;refine hK.out _ _ s3 (fun hHeld=>?_);clear hK K9;try simp only [Act.put,List.setIfInBounds_toArray]
  refine rD 11 rfl fun K9 hK=>?_;refine kK rfl _ _ 30 30 rfl (.slice a3 i c3) (.slice (some ⟨g,o+(i+1) * 2,none⟩) (n - (i+1)) (c - (i+1))) (by rfl) (by rfl) hr ?_;have hb4:=kv_grown vO.out hg4 HD3.out;have HB4:=hid (show Below w2.heap.size w2 w4 from aJ (Below.refl _ w2).drew hb4);have DC:=hid (show sJ w4 w2.heap.size _ _ from ho4);clear ho4 hg4 hr hb4;obtain ⟨a4,c4,rfl,hc4⟩:=DC.out.shape;obtain ⟨m4,hm4⟩:∃ m,(K.take i++K.drop (i+1)).length=m:=⟨_,rfl⟩
  rw [hm4] at DC ⊢;clear hc4 hc3;have rb:=(HB4.out.block _ (lt_of_block Cf.out)).trans Cf.out;have r0:=cell_of_row w4 (w.heap.size+1) 0 _ _ _ rb;have f0:=frozen_of_row w4 (w.heap.size+1) 0 _ _ rb;have s4:=ae s0 (HB4.out.block _ (block_lt_of_cell s0));have he:=qc HB2.out Cf.out HB4.out DC.out;rw [HDA.out] at he;have HE:=hid he;have s5:=(World.cell?_of_block ((aV w4 (w.heap.size+1) 0 (.slice a4 m4 c4)).block w.heap.size (block_lt_of_cell s4) (by simp))).trans s4;clear he rb;refine hK.out _ _ s4 (fun hHeld=>?_);clear hK K9;try simp only [Act.put]
  refine tR 12 38 (h:=?_);refine rD 13 rfl fun K9 hK=>?_;go_simp;refine hK.out _ _ s5 (fun hHeld=>?_);clear hK K9;try simp only [Act.put,pZ]
  refine tR 14 5 (h:=?_);refine wpAnyH_done (by decide +kernel) ?_ _;refine NoPanic.normal ?_;clear s4 s5 r0 f0 s0 s1 s3 hHeld;go_wp2_with fail;refine bodyPost_ret (v := .tuple #[.agg #[.slice a4 m4 c4],.int .i64 0]) (aj Tryz.results33 _ _ (w.heap.size+1) 32 #[.slice a4 m4 c4] (0,0) _ rfl HE.out.2 Tryz.underlying32 rfl lT _ (by simp)) rfl HE.out.1
theorem adK (a:bO)(c:Nat)(K:List bH)(k:ByteArray)(w:World)(h:Qd w a K)(ha:a=none→K=[]∧c=0)(hm:∀ p,a=some p→∃ g o,p=⟨g,o,none⟩)(hcc:K.length≤c)(hn:K.length≤100000)(hr:jg K)(hk:k.size≤1000000) :
 Calls Tryz.prog 33 #[.agg #[.slice a K.length c],.string k] w fun e w'=>ajt (jf k) (.del k) K w e w':=by
 cases hmay:jf k with
 | false=>exact (QX false a c K k w h hn hr hk hmay (.inl rfl)).mono fun e w' ⟨h1,h2⟩=>⟨h1,h2⟩
 | true =>
   have hh:=agt (K:=K) (k:=k);cases hg:nR k K with
   | nil =>
     rw [hg] at hh;have he:Cg.err (.del k) K=8:=by show (if vN k K then (0:Int) else 8)=8; rw [hh]; rfl
     refine (QX true a c K k w h hn hr hk hmay (.inr hg)).mono fun e w' ⟨h1,h2⟩=>⟨?_,h2⟩
     rw [if_pos rfl];exact .inl ⟨by rw [he]; decide,by rw [he]; exact h1⟩
   | cons x r =>
     rw [hg] at hh;have he:Cg.err (.del k) K=0:=by show (if vN k K then (0:Int) else 8)=0; rw [hh]; rfl
     cases a with
     | none =>
       obtain ⟨rfl,_⟩:=ha rfl;cases hg
     | some p =>
       obtain ⟨g,o,rfl⟩:=hm p rfl;refine (Zq g o c K k w h hn hcc hr hk hmay x r hg).mono fun e w' ⟨h1,h2⟩=>⟨?_,h2⟩
       rw [if_pos rfl] at h1 ⊢;exact .inr ⟨he,h1⟩
end
end Go.Proofs.YtljjcbmkbmloaaaGreatDoor
