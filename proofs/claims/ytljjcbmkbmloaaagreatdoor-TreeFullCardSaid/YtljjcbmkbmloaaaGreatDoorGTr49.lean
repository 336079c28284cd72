import Derived.Test.YtljjcbmkbmloaaaGreatDoorGTr48
import Derived.Test.YtljjcbmkbmloaaaGreatDoorGTrA
namespace Go.Proofs.YtljjcbmkbmloaaaGreatDoor
set_option maxRecDepth 4000
set_option linter.unusedVariables false
open Go.ChangeShapes Go.WideShapes Go.ChangeAt Go.RowKit
abbrev kR:=Nat×Rt×bO×Nat
def Ig (x:kR):List Value:=[.pointer (some ⟨x.1,0,none⟩),.slice x.2.2.1 x.2.1.cn.length x.2.2.2]
def nJ (Q:List kR):List Value:=Q.flatMap Ig
theorem Zk (a b:List kR):nJ (a++b)=nJ a++nJ b:=by simp [nJ]
theorem JE:∀ Q:List kR,(nJ Q).length=Q.length * 2
 | []=>rfl
 | x::Q=>by
   have:=JE Q
   show (Ig x++nJ Q).length=_
   rw [List.length_append,this,List.length_cons]
   show 2+_=_
   omega
theorem Zl (Q:List kR):∀ v ∈ nJ Q,v.oneCell'=true:=by
 intro v hv
 obtain ⟨x,_,hx⟩:=List.mem_flatMap.1 hv
 simp only [Ig,List.mem_cons,List.not_mem_nil,or_false] at hx
 rcases hx with rfl | rfl <;> rfl
theorem QM:∀ (Q:List kR) (i:Nat) (x:kR),Q[i]? = some x→(nJ Q)[i * 2]? = some (.pointer (some ⟨x.1,0,none⟩))∧(nJ Q)[i * 2+1]? = some (.slice x.2.2.1 x.2.1.cn.length x.2.2.2)
 | [],i,x,h=>by simp at h
 | y::Q,0,x,h=>by
   obtain rfl:y=x:=by simpa using h
   exact ⟨rfl,rfl⟩
 | y::Q,i+1,x,h=>by
   have:=QM Q i x (by simpa using h)
   show (Ig y++nJ Q)[(i+1) * 2]? = _∧(Ig y++nJ Q)[(i+1) * 2+1]? = _
   have e:(Ig y).length=2:=rfl
   rw [List.getElem?_append_right (by rw [e]; omega),List.getElem?_append_right (by rw [e]; omega),e,show (i+1) * 2 - 2=i * 2 by omega,show (i+1) * 2+1 - 2=i * 2+1 by omega]
   exact this
theorem Wn:(Tryz.prog.info? 34).map (fun i=>(i.zero,i.size,i.bytes))=some (some (.agg #[.pointer none,.slice none 0 0]),2,32):=by kernel_rfl
theorem aje (u v:Value)(W:World):(Instr.buildSlice 35 1 #[(0,.agg #[u,v])]).run Tryz.prog W = .ok (.slice (some ⟨W.heap.size,0,none⟩) 1 1) (W.alloc (.cells #[u,v] 34)) :=
 Dt Tryz.underlying35 Wn (by decide) (by decide) #[u,v] rfl W
theorem JF (b off len cap i:Nat)(h:i<len)(W:World):(Instr.indexAt 35 (.slice (some ⟨b,off,none⟩) len cap) (.int .i64 (i:Int))).run Tryz.prog W = .ok (.pointer (some ⟨b,off+i * 2,none⟩)) W:=by
 obtain ⟨i0,hi,hs⟩:=Option.map_eq_some_iff.1 (show (Tryz.prog.info? 34).map (·.size)=some 2 by kernel_rfl)
 simp [Instr.indexAt,asIntOf,run_underlying Tryz.underlying35,sizeOf,typeInfo,hi,hs,h,Addr.add_mid]
def ZB (w:World)(B g c:Nat)(Q:List kR):Prop:=w.ownsRow B 34 2 (.slice (some ⟨g,0,none⟩) Q.length c) Q.length (nJ Q)
theorem ZB.row {w:World}{B g c:Nat}{Q:List kR}(h:ZB w B g c Q):∃ cur,w.heap[g]? = some (.cells cur 34 (0,0))∧B≤g∧cur.toList.take (Q.length * 2)=nJ Q:=by
 rcases h.2 with ⟨e,_⟩ | ⟨g',cap,cur,e,hb,hc,h1,h2,h3,h4⟩
 ·cases e
 ·injection e with e _ _
  injection e with e
  injection e with e
  subst e
  exact ⟨cur,hc,hb,h4⟩
theorem ZB.move {w w':World}{B g c:Nat}{Q:List kR}(h:ZB w B g c Q)(q:w'.heap[g]? = w.heap[g]?):ZB w' B g c Q:=by
 refine ⟨h.1, ?_⟩
 rcases h.2 with ⟨e,_⟩ | ⟨g',cap,cur,e,hb,hc,h1⟩
 ·cases e
 ·injection e with e e2 e3
  injection e with e
  injection e with e
  subst e e3
  exact .inr ⟨g,c,cur,rfl,hb,q.trans hc,h1⟩
theorem ZB.lt {w:World}{B g c:Nat}{Q:List kR}(h:ZB w B g c Q):g<w.heap.size:=by
 obtain ⟨cur,hc,_⟩:=h.row
 exact lt_of_block hc
theorem ZB.at_ {w:World}{B g c:Nat}{Q:List kR}(h:ZB w B g c Q)(i:Nat)(x:kR)(hx:Q[i]? = some x):w.cell? ⟨g,i * 2,none⟩=some (.pointer (some ⟨x.1,0,none⟩))∧w.cell? ⟨g,i * 2+1,none⟩=some (.slice x.2.2.1 x.2.1.cn.length x.2.2.2):=by
 obtain ⟨cur,hc,_,h4⟩:=h.row
 obtain ⟨hi,_⟩:=List.getElem?_eq_some_iff.1 hx
 have h0:=QM Q i x hx
 rw [← h4,List.getElem?_take_of_lt (by omega),List.getElem?_take_of_lt (by omega),Array.getElem?_toList,Array.getElem?_toList] at h0
 exact ⟨cell_of_row w g _ cur _ _ hc ▸ h0.1,cell_of_row w g _ cur _ _ hc ▸ h0.2⟩
section
variable {w0 w w':World} {P D gl n b:Nat} {ks V:bY} {F:Nat→Bool} {ws:bW} {lim:Int} {dn:Bool} {L:List eU} {M:List Nat}
theorem QL.down {X:Nat}{R:Array Value}{Y:TypeId}(h:QL w0 w P D gl n ks F b V ws lim dn ((X,R,Y)::L) M):QL w0 w P D gl n ks F b V ws lim dn L (X::M):=by
 have hk:∀ k ∈ P::(L.map (·.1)++X::M),k ∈ P::(((X,R,Y)::L).map (·.1)++M):=fun k hk=>by
  simp only [List.map_cons,List.mem_cons,List.mem_append] at hk ⊢
  rcases hk with h | h | h | h
  ·exact .inl h
  ·exact .inr (.inl (.inr h))
  ·exact .inr (.inl (.inl h))
  ·exact .inr (.inr h)
 obtain ⟨bm,vw,a1,a2,a3,a4⟩:=h.po
 refine ⟨⟨bm,vw,a1,fun g hg=>⟨(a2 g hg).1,fun e=>(a2 g hg).2 (hk g e)⟩,fun k hm=>a3 k (hk k hm),a4⟩,h.pl,h.pn,h.kt,h.tz,fun r hr=>h.rows r (List.mem_cons_of_mem _ hr),fun e=>?_⟩
 rcases List.mem_cons.1 e with e | e
 ·exact (h.rows (X,R,Y) (List.mem_cons_self ..)).2.1 e.symm
 ·exact h.MR e
theorem QL.up {X:Nat}{R:Array Value}{Y:TypeId}(h:QL w0 w P D gl n ks F b V ws lim dn L M)(hX:X ∈ M)(hR:w.heap[X]? = some (.cells R Y (0,0)))(h0:w0.heap.size≤X):QL w0 w P D gl n ks F b V ws lim dn ((X,R,Y)::L) M:=by
 have hk:∀ k ∈ P::(((X,R,Y)::L).map (·.1)++M),k ∈ P::(L.map (·.1)++M):=fun k hk=>by
  simp only [List.map_cons,List.mem_cons,List.mem_append] at hk ⊢
  rcases hk with h | (h | h) | h
  ·exact .inl h
  ·exact .inr (.inr (h ▸ hX))
  ·exact .inr (.inl h)
  ·exact .inr (.inr h)
 obtain ⟨bm,vw,a1,a2,a3,a4⟩:=h.po
 refine ⟨⟨bm,vw,a1,fun g hg=>⟨(a2 g hg).1,fun e=>(a2 g hg).2 (hk g e)⟩,fun k hm=>a3 k (hk k hm),a4⟩,h.pl,h.pn,h.kt,h.tz,fun r hr=>?_,h.MR⟩
 rcases List.mem_cons.1 hr with rfl | hr
 ·exact ⟨hR,fun e=>h.MR (by rw [← e]; exact hX),h0⟩
 ·exact h.rows r hr
end
structure Wp (w0 wr:World)(P D gl n:Nat)(V:bY)(F:Nat→Bool)(ws:bW)(M:List Nat)(X g c:Nat)(Q:List kR)(x:kR)(m i:Nat):Prop where
 tq:∃ C,TQ w0 wr P D gl n V F ws [(X,gu x.1 x.2.2.1 m x.2.2.2,34),(g,C,34)] M
 own:ZB wr w0.heap.size g c Q
 dis:∀ k ∈ M,k ≠ X∧k ≠ g
 ne:X ≠ g
 pmx:PM wr P n V F ws M x.1 x.2.1 x.2.2.1 x.2.2.2
 lx:x.2.1.cn.length≤i
 mx:x.2.1.cn.length=m
 all:∀ q ∈ Q,PM wr P n V F ws M q.1 q.2.1 q.2.2.1 q.2.2.2∧q.2.1.cn.length≤i
 q0:0<Q.length
 qn:Q.length≤i+1
section
variable {w0 w w':World} {P D gl n:Nat} {V:bY} {F F':Nat→Bool} {ws ws':bW} {M M':List Nat} {X g c m i:Nat} {Q:List kR} {x:kR}
theorem Wp.below (h:Wp w0 w P D gl n V F ws M X g c Q x m i)(q:Below w.heap.size w w'):Wp w0 w' P D gl n V F ws M X g c Q x m i:=by
 obtain ⟨C,hC⟩:=h.tq
 exact ⟨⟨C,hC.below q⟩,h.own.move (q.block _ h.own.lt),h.dis,h.ne,h.pmx.bU hC (hC.below q) (fun _ e=>e) q,h.lx,h.mx,fun y hy=>⟨(h.all y hy).1.bU hC (hC.below q) (fun _ e=>e) q,(h.all y hy).2⟩,h.q0,h.qn⟩
theorem Wp.did {C:Array Value}(h:Wp w0 w P D gl n V F ws M X g c Q x m i)(hc:TQ w0 w P D gl n V F ws [(X,gu x.1 x.2.2.1 m x.2.2.2,34),(g,C,34)] M)
 (hs:QY w0 w w' P D gl n V F ws [(X,gu x.1 x.2.2.1 m x.2.2.2,34),(g,C,34)] M F' ws' M'):Wp w0 w' P D gl n V F' ws' M' X g c Q x m i:=by
 have r0:=hc.q.row 0 _ rfl
 have r1:=hc.q.row 1 _ rfl
 refine ⟨⟨C,hs.tq⟩,h.own.move ((hs.tq.q.row 1 _ rfl).trans r1.symm),fun k hk=>?_,h.ne,h.pmx.stepS hs,h.lx,h.mx,fun y hy=>⟨(h.all y hy).1.stepS hs,(h.all y hy).2⟩,h.q0,h.qn⟩
 rcases hs.new k hk with e | e
 ·exact h.dis k e
 ·have h1:X<w.heap.size:=lt_of_block r0
  have h2:g<w.heap.size:=lt_of_block r1
  omega
theorem Wp.set {i':Nat}(h:Wp w0 w P D gl n V F ws M X g c Q x m i)(y:kR)(hy:PM w P n V F ws M y.1 y.2.1 y.2.2.1 y.2.2.2)(hl:y.2.1.cn.length≤i')(hi:i≤i')
 (hw:w'=(w.setCell ⟨X,0,none⟩ (.pointer (some ⟨y.1,0,none⟩))).setCell ⟨X,1,none⟩ (.slice y.2.2.1 y.2.1.cn.length y.2.2.2)):Wp w0 w' P D gl n V F ws M X g c Q y y.2.1.cn.length i':=by
 obtain ⟨C,hC⟩:=h.tq
 have hr:w.heap[X]? = some (.cells [Value.pointer (some ⟨x.1,0,none⟩),.slice x.2.2.1 m x.2.2.2].toArray 34 (0,0)):=hC.q.row 0 _ rfl
 have ht:Touch [X] w w':=by
  subst hw
  exact (aT w X 0 _).trans (aT _ X 1 _)
 have iH:w'.heap[X]? = some (.cells (gu y.1 y.2.2.1 y.2.1.cn.length y.2.2.2) 34 (0,0)):=by
  subst hw
  exact dZ (dZ hr 0 _) 1 _
 have hst:qB M w w':=fun k hk=>ht.block k (hC.q.gI k hk) (by simpa using (h.dis k hk).1)
 have hlt:∀ k ∈ M,k<w'.heap.size:=fun k hk=>Nat.lt_of_lt_of_le (hC.q.gI k hk) ht.size
 refine ⟨⟨C,hC.q.upd ht iH (fun r hr=>?_),hC.few⟩,h.own.move (ht.block g h.own.lt (by simpa using h.ne.symm)),h.dis,h.ne,hy.mono hst (fun _ e=>e) hlt (fun _ _ e=>e),hl,rfl,fun z hz=>⟨(h.all z hz).1.mono hst (fun _ e=>e) hlt (fun _ _ e=>e),Nat.le_trans (h.all z hz).2 hi⟩,h.q0,Nat.le_trans h.qn (by omega)⟩
 rw [List.mem_singleton.1 hr]
 exact h.ne.symm
theorem Wp.push (h:Wp w0 w P D gl n V F ws M X g c Q x m i)(Y:Nat)(hY:∀ j y,(Ig x)[j]? = some y→w.cell? ⟨Y,j,none⟩=some y)(hl:Q.length≤1000)(ty:TypeId) :
 ∃ g' c' w',(Builtin.append_ #[35,35] ty #[.slice (some ⟨g,0,none⟩) Q.length c,.slice (some ⟨Y,0,none⟩) 1 1]).run Tryz.prog w = .ok (.slice (some ⟨g',0,none⟩) (Q.length+1) c') w'∧∀ i',i≤i'→Q.length≤i'→Wp w0 w' P D gl n V F ws M X g' c' (Q++[x]) x m i':=by
 obtain ⟨C,hC⟩:=h.tq
 obtain ⟨i0,hi,hz⟩:=Option.map_eq_some_iff.1 Wn
 simp only [Prod.mk.injEq] at hz
 obtain ⟨h1,h2,h3⟩:=hz
 have hrx:nJ [x]=Ig x:=by simp [nJ]
 obtain ⟨v',w',hr,ho,hg,_,hnb⟩:=run_append_own_at (P:=Tryz.prog) w w0.heap.size 35 ty 34 i0 _ 2 32 Tryz.underlying35 hi h1 h2 h3 rfl (by decide) (.slice (some ⟨g,0,none⟩) Q.length c) Q.length (nJ Q) h.own ⟨Y,0,none⟩ 1 1 (nJ [x]) (JE [x]) (fun j y hy=>by rw [Addr.add_mid,Nat.zero_add]; exact hY j y (hrx ▸ hy)) (Zl [x]) (by unfold maxLen; omega) (by omega) hC.q.bel.size
 rcases ho.2 with ⟨_,e⟩ | ⟨g',c',cur,rfl,q1⟩
 ·omega
 have hg':g'=g∨g'=w.heap.size:=by
  rcases hnb with e | e
  ·injection e with e
   exact .inl e
  ·injection e with e
   exact .inr e
 have ht:Touch [g] w w':=Touch.grown hg
 have hlt':g'<w'.heap.size:=lt_of_block q1.2.1
 have ho2:ZB w' w0.heap.size g' c' (Q++[x]):=by
  unfold ZB
  rw [Zk,List.length_append]
  exact ho
 have hst:qB M w w':=fun k hk=>ht.block k (hC.q.gI k hk) (by simpa using (h.dis k hk).2)
 have hlt:∀ k ∈ M,k<w'.heap.size:=fun k hk=>Nat.lt_of_lt_of_le (hC.q.gI k hk) ht.size
 have r0:X<w.heap.size:=lt_of_block (hC.q.row 0 _ rfl)
 have a1:=hC.q.less (L':=[(g,C,34),(X,gu x.1 x.2.2.1 m x.2.2.2,34)]) (M':=M) (fun r hr=>by simp only [List.mem_cons,List.not_mem_nil,or_false] at hr ⊢; exact hr.symm) (fun _ e=>e)
 have a2:=a1.down
 obtain ⟨M2,a3,a4,a5⟩:=a2.af8 (o:=some g) (o':=some g') ht (fun k hk=>by cases hk; exact ⟨List.mem_cons_self ..,h.own.row.elim fun _ e=>e.2.1⟩) (fun r hr=>by rw [List.mem_singleton.1 hr]; simpa using h.ne.symm) (hg'.imp (fun e=>by rw [e]) (fun e=>⟨w.heap.size,by rw [e],Nat.le_refl _,by rw [← e]; exact hlt'⟩))
 have a6:=a3.up (a5 g' rfl) q1.2.1 q1.1
 have a7:=a6.less (L':=[(X,gu x.1 x.2.2.1 m x.2.2.2,34),(g',cur,34)]) (M':=M) (fun r hr=>by simp only [List.mem_cons,List.not_mem_nil,or_false] at hr ⊢; exact hr.symm) (fun k hk=>a4 k (List.mem_cons_of_mem _ hk))
 refine ⟨g',c',w',hr,fun i' hi' hq'=>⟨⟨cur,a7,hC.few⟩,ho2,fun k hk=>⟨(h.dis k hk).1, ?_⟩, ?_,h.pmx.mono hst (fun _ e=>e) hlt (fun _ _ e=>e),Nat.le_trans h.lx hi',h.mx,fun z hz=>?_,by simp,by simp; omega⟩⟩
 ·rcases hg' with e | e
  ·rw [e]; exact (h.dis k hk).2
  ·have:=hC.q.gI k hk
   omega
 ·rcases hg' with e | e
  ·rw [e]; exact h.ne
  ·omega
 ·rcases List.mem_append.1 hz with hz | hz
  ·exact ⟨(h.all z hz).1.mono hst (fun _ e=>e) hlt (fun _ _ e=>e),Nat.le_trans (h.all z hz).2 hi'⟩
  ·rw [List.mem_singleton.1 hz]
   exact ⟨h.pmx.mono hst (fun _ e=>e) hlt (fun _ _ e=>e),Nat.le_trans h.lx hi'⟩
end
theorem Zm {w0 w w2:World}{P D gl n:Nat}{V:bY}{F:Nat→Bool}{ws:bW}{M:List Nat}{t:Nat}(h:TQ w0 w P D gl n V F ws [] M)(ht:TM w P n V F ws M t none)
 (hw:w2=(w.alloc (.cells (gu t none 0 0) 34)).alloc (.cells (gu t none 0 0) 34)):Wp w0 w2 P D gl n V F ws M w.heap.size (w.heap.size+1) 1 [(t,none,none,0)] (t,none,none,0) 0 0:=by
 have hb1:=aJ w (.cells (gu t none 0 0) 34)
 have h1:=h.q.add hb1 w.heap.size _ _ (Nat.le_refl _) (ah w _)
 have e1:(w.alloc (.cells (gu t none 0 0) 34)).heap.size=w.heap.size+1:=by simp
 have hb2:=aJ (w.alloc (.cells (gu t none 0 0) 34)) (.cells (gu t none 0 0) 34)
 have hn2:=ah (w.alloc (.cells (gu t none 0 0) 34)) (.cells (gu t none 0 0) 34)
 rw [e1] at hn2
 have h2:=h1.add hb2 (w.heap.size+1) _ _ (by omega) hn2
 have hb:=aK hb1 hb2
 subst hw
 have hp:PM ((w.alloc (.cells (gu t none 0 0) 34)).alloc (.cells (gu t none 0 0) 34)) P n V F ws M t none none 0 :=
  ⟨ht.mono (aX h.q.gI hb) (fun _ e=>e) (fun k hk=>Nat.lt_of_lt_of_le (h.q.gI k hk) hb.size) (fun _ _ e=>e),⟨⟨fun i x hx=>by simp [Rt.cn] at hx⟩,fun _=>⟨rfl,rfl⟩,fun p e=>(by cases e),Nat.le_refl _⟩⟩
 refine ⟨⟨_,h2.less (M':=M) (fun r hr=>by simp only [List.mem_cons,List.not_mem_nil,or_false] at hr ⊢; exact hr.symm) (fun _ e=>e),h.few⟩,⟨rfl,.inr ⟨_,1,_,rfl, ?_,hn2,Nat.le_refl _,by decide,rfl,rfl⟩⟩,fun k hk=>?_,by omega,hp,Nat.le_refl _,rfl,fun y hy=>?_,by simp,by simp⟩
 ·have:=h.q.bel.size
  omega
 ·have:=h.q.gI k hk
  omega
 ·rw [List.mem_singleton.1 hy]
  exact ⟨hp,Nat.le_refl _⟩
end Go.Proofs.YtljjcbmkbmloaaaGreatDoor
