import Derived.Test.YtljjcbmkbmloaaaGreatDoorGTu26
import Derived.Test.YtljjcbmkbmloaaaGreatDoorGTu42
import Derived.Test.YtljjcbmkbmloaaaGreatDoorGTu45
import Derived.Test.YtljjcbmkbmloaaaGreatDoorGTuA
namespace Go.Proofs.YtljjcbmkbmloaaaGreatDoor
set_option maxHeartbeats 6400000
set_option maxRecDepth 100000
set_option linter.unusedVariables false
section
open Go.ChangeShapes Go.WideShapes Go.ChangeAt Go.RowKit
def IW (kk:bY)(n:Nat)(V:bY)(F:Nat→Bool)(ws:bW):ay→az→Prop:=fun q nd=>xQ kk n q V ws false=(nd,0)∧F q.ad.toNat=false
structure More (kk:bY)(n:Nat)(V:bY)(F:Nat→Bool)(ws:bW)(F':Nat→Bool)(ws':bW):Prop where
 lq:∀ q nd,IW kk n V F ws q nd→IW kk n V F' ws' q nd
 len:ws'.length+cnt F' n=ws.length+cnt F n
 cnt:cnt F' n≤cnt F n
theorem More.refl {kk:bY}{n:Nat}{V:bY}{F:Nat→Bool}{ws:bW}:More kk n V F ws F ws:=⟨fun _ _ h=>h,rfl,Nat.le_refl _⟩
theorem More.trans {kk:bY}{n:Nat}{V:bY}{F F' F'':Nat→Bool}{ws ws' Nb:bW}(h:More kk n V F ws F' ws')(q:More kk n V F' ws' F'' Nb):More kk n V F ws F'' Nb :=
 ⟨fun a b c=>q.lq a b (h.lq a b c),q.len.trans h.len,Nat.le_trans q.cnt h.cnt⟩
theorem adq {kk:bY}{n a:Nat}{V:bY}{F:Nat→Bool}{ws:bW}(l:bY)(ha:a<n)(hF:F a=true):More kk n V F ws (eG F a false) (ws++[(a,l)]):=by
 have hc:=QP ha hF;refine ⟨fun q nd h=>?_,by rw [List.length_append]; simp only [List.length_cons,List.length_nil]; omega,by omega⟩;have hne:a ≠ q.ad.toNat:=fun e=>by rw [e,h.2] at hF; cases hF
 refine ⟨?_, ?_⟩
 ·have h1:=h.1
  unfold xQ at h1 ⊢;rw [mW,if_neg hne];exact h1
 unfold eG;rw [if_neg (fun e=>hne e.symm)];exact h.2
theorem adr {kk:bY}{n a b:Nat}{nd:az}{V:bY}{F:Nat→Bool}{ws:bW}(hc:checkN nd=0)(ha2:2≤a)(Lh:a<n)(hn:n≤4096)(hb:b<18446744073709551616)(hb0:b ≠ 0) :
 IW kk n V (eG F a false) (ws++[(a,JZ kk b a nd)]) (Aa kk b a nd) nd∧(Aa kk b a nd).ad ≠ 0∧jq (Aa kk b a nd)=true:=by
 have hm:=QN (kk:=kk) (nd:=nd) ha2 (show a<4096 by omega) (by omega) hb hb0
 refine ⟨⟨QO hc ha2 Lh (by omega) hb hb0 (by rw [mW,if_pos rfl]), ?_⟩,hm.1, ?_⟩
 ·rw [(yR (kk:=kk) (nd:=nd) (show a<4294967296 by omega) hb).1,Int.toNat_natCast]
  unfold eG;rw [if_pos rfl]
 ·unfold jq
  rw [decide_eq_true (show iE (Aa kk b a nd) 4096=0 from hm.2)];simpa using hm.1
section
variable {w0 wS w w':World} {P D gl n b:Nat} {ks V kk m:bY} {F F':Nat→Bool} {ws ws':bW} {lim:Int} {dn:Bool} {L:List eH} {M:List Nat}
theorem QL.wide {l:List Nat}(h:QL w0 w P D gl n ks F b V ws lim dn L M)(t:Touch l w w')(hl:∀ k ∈ l,k ∈ M∧w0.heap.size≤k)(hr:∀ r ∈ L,r.1 ∉ l):QL w0 w' P D gl n ks F b V ws lim dn L (nY w w'++M):=by
 have h2:=h.adp t hl hr;have hp:=h.pl.lt;refine ⟨?_,h2.pl,h.pn,h.kt,h.tz,h2.rows,fun hm=>?_⟩
 ·obtain ⟨bm,vw,a1,a2,a3,a4⟩:=h.po
  refine ⟨bm,vw,a1.touch t (fun g hg e=>(a2 g hg).2 (List.mem_cons_of_mem _ (List.mem_append_right _ (hl g e).1))),fun g hg=>⟨(a2 g hg).1,fun hm=>?_⟩,fun k hk=>?_,a4.trans (t.below a4.size (fun k hk=>(hl k hk).2))⟩
  ·have h3:=a1.lt g hg
   have h4:=(a2 g hg).2;simp only [List.mem_cons,List.mem_append] at hm h4;rcases hm with e | e | e | e
   ·exact h4 (.inl e)
   ·exact h4 (.inr (.inl e))
   ·have:=(dV.1 e).2; omega
   exact h4 (.inr (.inr e))
  simp only [List.mem_cons,List.mem_append] at hk;rcases hk with e | e | e | e
  ·exact Nat.lt_of_lt_of_le (a3 k (by simp [e])) t.size
  ·exact Nat.lt_of_lt_of_le (a3 k (by simp only [List.mem_cons,List.mem_append]; exact .inr (.inl e))) t.size
  ·exact (dV.1 e).1
  exact Nat.lt_of_lt_of_le (a3 k (by simp only [List.mem_cons,List.mem_append]; exact .inr (.inr e))) t.size
 rcases List.mem_append.1 hm with e | e
 ·have:=(dV.1 e).2; omega
 exact h.Ro e
theorem QL.jY (h:QL w0 w P D gl n ks F b V ws lim dn L M):∀ k ∈ M,k<w.heap.size:=fun k hk=>by
 obtain ⟨bm,vw,a1,a2,a3,a4⟩:=h.po;exact a3 k (List.mem_cons_of_mem _ (List.mem_append_right _ hk))
structure WS (w0 wS w:World)(P D gl n:Nat)(kk m:bY)(F:Nat→Bool)(b:Nat)(V:bY)(ws:bW)(L:List eH)(M:List Nat)(B4 G:Nat)(lf:Bool)(k v p:Value)(ks vs:List ByteArray)(ps:List ay):Prop where
 q:∃ M',QL w0 w P D gl n (kk++m) F b V ws (-1) false L M'∧(∀ x ∈ M,x ∈ M')∧B4 ∈ M'∧G ∈ M'∧(∀ g,k.ownBlock=some g→g ∈ M')∧(∀ g,v.ownBlock=some g→g ∈ M')∧(∀ g,p.ownBlock=some g→g ∈ M')
 tn:TN wS.heap.size w G lf k v p ks vs ps
 r4:w.heap[B4]? = some (.cells (ag ai).toArray 51 (0,0))
 h4:wS.heap.size≤B4
 hG:wS.heap.size≤G
 p4:p.ownBlock ≠ some B4
 st:qQ M wS w
 sz:wS.heap.size≤w.heap.size
 s0:w0.heap.size≤wS.heap.size
 ml:∀ k ∈ M,k<wS.heap.size
 rl:∀ r ∈ L,r.1<wS.heap.size
variable {B4 G:Nat} {lf:Bool} {k v p:Value} {kz vz:List ByteArray} {pz:List ay}
theorem WS.kept (h:WS w0 wS w P D gl n kk m F b V ws L M B4 G lf k v p kz vz pz){a i:Nat}{x:Value}(ha:a ∈ M)(hx:wS.cell? ⟨a,i,none⟩=some x):w.cell? ⟨a,i,none⟩=some x:=ae hx (h.st a ha)
theorem WS.cells (h:WS w0 wS w P D gl n kk m F b V ws L M B4 G lf k v p kz vz pz):w.cell? ⟨G,0,none⟩=some (.bool lf)∧w.cell? ⟨G,1,none⟩=some k∧w.cell? ⟨G,2,none⟩=some v∧w.cell? ⟨G,3,none⟩=some p:=dX h.tn.cell
theorem WS.nr (h:WS w0 wS w P D gl n kk m F b V ws L M B4 G lf k v p kz vz pz):NR w k v p ⟨lf,kz,vz,pz⟩:=h.tn.nr
theorem WS.own {l:List Nat}{k' v' p':Value}{kz' vz':List ByteArray}{pz':List ay}(h:WS w0 wS w P D gl n kk m F b V ws L M B4 G lf k v p kz vz pz)(t:Touch l w w')(hl:∀ x ∈ l,x=G∨k.ownBlock=some x∨v.ownBlock=some x∨p.ownBlock=some x)
 (h4:B4 ∉ l) (tn:TN wS.heap.size w' G lf k' v' p' kz' vz' pz') (hk:∀ g,k'.ownBlock=some g→k.ownBlock=some g∨w.heap.size≤g) (hv:∀ g,v'.ownBlock=some g→v.ownBlock=some g∨w.heap.size≤g) (hp:∀ g,p'.ownBlock=some g→p.ownBlock=some g∨w.heap.size≤g) :
 WS w0 wS w' P D gl n kk m F b V ws L M B4 G lf k' v' p' kz' vz' pz':=by
 obtain ⟨M',hq,hM,h4M,hGM,hkM,hvM,hpM⟩:=h.q
 have hs0:=h.s0
 have hlow:∀ x ∈ l,x ∈ M'∧wS.heap.size≤x:=fun x hx=>by
  rcases hl x hx with e | e | e | e
  ·rw [e]; exact ⟨hGM,h.hG⟩
  ·exact ⟨hkM x e,(h.tn.ok.lt x e).1⟩
  ·exact ⟨hvM x e,(h.tn.ov.lt x e).1⟩
  exact ⟨hpM x e,(h.tn.op.lt x e).1⟩
 have hnew:∀ {u u':Value},(∀ g,u.ownBlock=some g→g ∈ M')→(∀ g,u'.ownBlock=some g→u.ownBlock=some g∨w.heap.size≤g)→(∀ g,u'.ownBlock=some g→g<w'.heap.size)→∀ g,u'.ownBlock=some g→g ∈ nY w w'++M':=fun h1 h2 h3 g hg=>by
  rcases h2 g hg with e | e
  ·exact List.mem_append_right _ (h1 g e)
  exact List.mem_append_left _ (dV.2 ⟨h3 g hg,e⟩)
 refine ⟨⟨nY w w'++M',hq.wide t (fun x hx=>⟨(hlow x hx).1,Nat.le_trans h.s0 (hlow x hx).2⟩) (fun r hr hm=>?_),fun x hx=>List.mem_append_right _ (hM x hx),List.mem_append_right _ h4M,List.mem_append_right _ hGM,hnew hkM hk (fun g hg=>(tn.ok.lt g hg).2),hnew hvM hv (fun g hg=>(tn.ov.lt g hg).2),hnew hpM hp (fun g hg=>(tn.op.lt g hg).2)⟩,tn,(t.block B4 (lt_of_block h.r4) h4).trans h.r4,h.h4,h.hG,fun e=>?_,fun x hx=>?_,Nat.le_trans h.sz t.size,h.s0,h.ml,h.rl⟩
 ·have:=(hlow _ hm).2
  have:=h.rl r hr;omega
 ·rcases hp _ e with e2 | e2
  ·exact h.p4 e2
  have:=lt_of_block h.r4;omega
 ·refine (t.block x (Nat.lt_of_lt_of_le (h.ml x hx) h.sz) (fun hm=>?_)).trans (h.st x hx)
  have:=(hlow x hm).2;have:=h.ml x hx;omega
theorem WS.below (h:WS w0 wS w P D gl n kk m F b V ws L M B4 G lf k v p kz vz pz)(q:Below w.heap.size w w'):WS w0 wS w' P D gl n kk m F b V ws L M B4 G lf k v p kz vz pz :=
 h.own (l:=[]) (Touch.of_below q) (by simp) (by simp) (h.tn.below q) (fun _ e => .inl e) (fun _ e => .inl e) (fun _ e => .inl e)
theorem WS.gk (h:WS w0 wS w P D gl n kk m F b V ws L M B4 G lf k v p kz vz pz):k.ownBlock ≠ some B4∧v.ownBlock ≠ some B4∧G ≠ B4:=by
 refine ⟨own_ne h.tn.ok h.r4 (by decide),own_ne h.tn.ov h.r4 (by decide),fun e=>?_⟩;have h1:=h.tn.cell;rw [e,h.r4] at h1;injection h1 with h1;injection h1 with _ h1;exact absurd h1 (by decide)
theorem ads (h:WS w0 wS w P D gl n kk m F b V ws L M B4 G lf k v p kz vz pz)(s:ByteArray)(hn:kz.length≤100000) :
 ∃ a c w',(Builtin.append_ #[115,115] 115 #[k,.slice (some ⟨w.heap.size,0,none⟩) 1 1]).run Tryz.prog (w.alloc (.cells #[.string s] 9)) = .ok (.slice a (kz.length+1) c) w' ∧
   w'.cell? ⟨G,1,none⟩=some k∧w'.frozen? ⟨G,1,none⟩=false∧WS w0 wS (w'.setCell ⟨G,1,none⟩ (.slice a (kz.length+1) c)) P D gl n kk m F b V ws L M B4 G lf (.slice a (kz.length+1) c) v p (kz++[s]) vz pz ∧
   ∀ (X:Nat) (cs:Array Value),w.heap[X]? = some (Obj.cells cs 129 (0,0))→(w'.setCell ⟨G,1,none⟩ (.slice a (kz.length+1) c)).heap[X]? = some (Obj.cells cs 129 (0,0)):=by
 obtain ⟨a,c,w',h1,h2,h3,h4,_,_⟩:=abw h.tn s h.sz h.hG hn
 obtain ⟨a2,c2,w2,g1,g2,g3,g4⟩:=tH w wS.heap.size kz.length k kz s h.tn.ok (by omega) h.sz
 rw [h1] at g1
 injection g1 with g1 e2
 injection g1 with e1 _ e3
 subst e1 e2 e3
 have hb:=(Below.refl w.heap.size w).alloc (Nat.le_refl _) (.cells #[.string s] 9)
 have ht:Touch (G::k.ownBlock.toList) w (w'.setCell ⟨G,1,none⟩ (.slice a (kz.length+1) c)):=((Touch.of_below hb).trans ((Touch.grown g3).more (fun x hx=>List.mem_cons_of_mem _ hx))).trans (Touch.dC ((Only.refl G w').setCell 1 _) (List.mem_cons_self ..))
 refine ⟨a,c,w',h1,h2,h3,h.own ht (fun x hx=>?_) (fun hm=>?_) h4 (fun g hg=>?_) (fun _ e => .inl e) (fun _ e => .inl e),fun X cs hX=>(ht.block X (lt_of_block hX) (fun hm=>?_)).trans hX⟩
 ·rcases List.mem_cons.1 hx with e | e
  ·exact .inl e
  exact .inr (.inl (by simpa using e))
 ·rcases List.mem_cons.1 hm with e | e
  ·exact h.gk.2.2 e.symm
  exact h.gk.1 (by simpa using e)
 ·rcases g4 with e | e
  ·rw [e] at hg; exact .inl hg
  rw [e] at hg; injection hg with hg; right; omega
 ·rcases List.mem_cons.1 hm with e | e
  ·have h5:=h.tn.cell
   rw [← e,hX] at h5;injection h5 with h5;injection h5 with _ h5;exact absurd h5 (by decide)
  exact own_ne h.tn.ok hX (by decide) (by simpa using e)
theorem ajj (h:WS w0 wS w P D gl n kk m F b V ws L M B4 G lf k v p kz vz pz)(s:ByteArray)(hn:vz.length≤100000) :
 ∃ a c w',(Builtin.append_ #[115,115] 115 #[v,.slice (some ⟨w.heap.size,0,none⟩) 1 1]).run Tryz.prog (w.alloc (.cells #[.string s] 9)) = .ok (.slice a (vz.length+1) c) w' ∧
   w'.cell? ⟨G,2,none⟩=some v∧w'.frozen? ⟨G,2,none⟩=false∧WS w0 wS (w'.setCell ⟨G,2,none⟩ (.slice a (vz.length+1) c)) P D gl n kk m F b V ws L M B4 G lf k (.slice a (vz.length+1) c) p kz (vz++[s]) pz:=by
 obtain ⟨a,c,w',h1,h2,h3,h4,_,_⟩:=abx h.tn s h.sz h.hG hn
 obtain ⟨a2,c2,w2,g1,g2,g3,g4⟩:=tH w wS.heap.size vz.length v vz s h.tn.ov (by omega) h.sz
 rw [h1] at g1
 injection g1 with g1 e2
 injection g1 with e1 _ e3
 subst e1 e2 e3
 have hb:=(Below.refl w.heap.size w).alloc (Nat.le_refl _) (.cells #[.string s] 9)
 have ht:Touch (G::v.ownBlock.toList) w (w'.setCell ⟨G,2,none⟩ (.slice a (vz.length+1) c)):=((Touch.of_below hb).trans ((Touch.grown g3).more (fun x hx=>List.mem_cons_of_mem _ hx))).trans (Touch.dC ((Only.refl G w').setCell 2 _) (List.mem_cons_self ..))
 refine ⟨a,c,w',h1,h2,h3,h.own ht (fun x hx=>?_) (fun hm=>?_) h4 (fun _ e => .inl e) (fun g hg=>?_) (fun _ e => .inl e)⟩
 ·rcases List.mem_cons.1 hx with e | e
  ·exact .inl e
  exact .inr (.inr (.inl (by simpa using e)))
 ·rcases List.mem_cons.1 hm with e | e
  ·exact h.gk.2.2 e.symm
  exact h.gk.2.1 (by simpa using e)
 ·rcases g4 with e | e
  ·rw [e] at hg; exact .inl hg
  rw [e] at hg; injection hg with hg; right; omega
theorem adt (h:WS w0 wS w P D gl n kk m F b V ws L M B4 G lf k v p kz vz pz)(q:ay)(hn:pz.length≤100000) :
 ∃ a c w',(Builtin.append_ #[116,116] 116 #[p,.slice (some ⟨w.heap.size,0,none⟩) 1 1]).run Tryz.prog (w.alloc (.cells (ag q).toArray 51)) = .ok (.slice a (pz.length+1) c) w' ∧
   w'.cell? ⟨G,3,none⟩=some p∧w'.frozen? ⟨G,3,none⟩=false∧WS w0 wS (w'.setCell ⟨G,3,none⟩ (.slice a (pz.length+1) c)) P D gl n kk m F b V ws L M B4 G lf k v (.slice a (pz.length+1) c) kz vz (pz++[q]):=by
 obtain ⟨a,c,w',h1,h2,h3,h4,_,_⟩:=aby h.tn q h.sz h.hG hn
 have hb:=(Below.refl w.heap.size w).alloc (Nat.le_refl _) (.cells (ag q).toArray 51)
 have hs:(w.alloc (.cells (ag q).toArray 51)).heap.size=w.heap.size+1:=by simp
 obtain ⟨a2,c2,w2,g1,g2,g3,g4⟩:=Jo (w.alloc (.cells (ag q).toArray 51)) wS.heap.size pz.length p (.slice (some ⟨w.heap.size,0,none⟩) 1 1) pz [q] (pG h.tn.op hb) (abu (l:=[q]) 1 (by rw [show kP [q]=ag q by simp [kP]]; exact heap_alloc_new w _)) (by omega) (by simp) (by have:=h.sz; rw [hs]; omega)
 rw [h1] at g1
 injection g1 with g1 e2
 injection g1 with e1 _ e3
 subst e1 e2 e3
 have ht:Touch (G::p.ownBlock.toList) w (w'.setCell ⟨G,3,none⟩ (.slice a (pz.length+1) c)):=((Touch.of_below hb).trans ((Touch.grown g3).more (fun x hx=>List.mem_cons_of_mem _ hx))).trans (Touch.dC ((Only.refl G w').setCell 3 _) (List.mem_cons_self ..))
 refine ⟨a,c,w',h1,h2,h3,h.own ht (fun x hx=>?_) (fun hm=>?_) h4 (fun _ e => .inl e) (fun _ e => .inl e) (fun g hg=>?_)⟩
 ·rcases List.mem_cons.1 hx with e | e
  ·exact .inl e
  exact .inr (.inr (.inr (by simpa using e)))
 ·rcases List.mem_cons.1 hm with e | e
  ·exact h.gk.2.2 e.symm
  exact h.p4 (by simpa using e)
 ·rcases g4 with e | e
  ·exact .inl (e.symm.trans hg)
  rw [show (Value.slice a (pz.length+1) c).ownBlock=_ from e] at hg; injection hg with hg; right; omega
theorem WS.calls {fn:FuncId}{args:Array Value}{A:Ending→(Nat→Bool)→bW→World→Prop}(h:WS w0 wS w P D gl n kk m F b V ws L M B4 G lf k v p kz vz pz)
 (c:∀ M',QL w0 w P D gl n (kk++m) F b V ws (-1) false L M'→(∀ x ∈ M,x ∈ M')→Calls Tryz.prog fn args w fun e w'=>∃ F' ws',A e F' ws' w'∧QL w0 w' P D gl n (kk++m) F' b V ws' (-1) false L M'∧qQ M' w w'∧w.heap.size≤w'.heap.size) :
 Calls Tryz.prog fn args w fun e w'=>∃ F' ws',A e F' ws' w'∧WS w0 wS w' P D gl n kk m F' b V ws' L M B4 G lf k v p kz vz pz:=by
 obtain ⟨M',hq,hM,h4M,hGM,hkM,hvM,hpM⟩:=h.q
 refine (c M' hq hM).mono ?_
 rintro e w' ⟨F',ws',ha,hq',hs,hsz⟩
 refine ⟨F',ws',ha,⟨⟨M',hq',hM,h4M,hGM,hkM,hvM,hpM⟩,⟨(hs G hGM).trans h.tn.cell,G9 h.tn.ok (fun g hg=>hs g (hkM g hg)),G9 h.tn.ov (fun g hg=>hs g (hvM g hg)),G9 h.tn.op (fun g hg=>hs g (hpM g hg)),h.tn.ap⟩,(hs B4 h4M).trans h.r4,h.h4,h.hG,h.p4,fun x hx=>(hs x (hM x hx)).trans (h.st x hx),Nat.le_trans h.sz hsz,h.s0,h.ml,h.rl⟩⟩
theorem WS.done (h:WS w0 wS w P D gl n kk m F b V ws L M B4 G lf k v p kz vz pz)(t:Touch [B4] w w'):QL w0 w' P D gl n (kk++m) F b V ws (-1) false L M∧qQ M wS w'∧wS.heap.size≤w'.heap.size:=by
 obtain ⟨M',hq,hM,h4M,hGM,hkM,hvM,hpM⟩:=h.q;have h4:=h.h4;refine ⟨(hq.adp t (fun x hx=>?_) (fun r hr hm=>?_)).less (fun r hr=>hr) hM,fun x hx=>(t.block x (Nat.lt_of_lt_of_le (h.ml x hx) h.sz) (fun hm=>?_)).trans (h.st x hx),Nat.le_trans h.sz t.size⟩
 ·rw [List.mem_singleton.1 hx]
  exact ⟨h4M,Nat.le_trans h.s0 h4⟩
 ·have:=h.rl r hr
  rw [List.mem_singleton.1 hm] at this;omega
 have:=h.ml x hx;rw [List.mem_singleton.1 hm] at this;omega
end
end
section
open Lib (hid)
open Go.ChangeShapes Go.WideShapes Go.ChangeAt Go.RowKit
def uq (w0:World)(P D gl n:Nat)(kk m:bY)(b:Nat)(V:bY)(L:List eH)(M:List Nat)(F:Nat→Bool)(ws:bW)(d:Nat)(T:Kd (d+1))(w:World)(e:Ending)(w':World):Prop :=
 ∃ F' ws',((∃ q X,e = .returned (.tuple #[.agg (ag q).toArray,.int .i64 0])∧Lies (IW kk n V F' ws') d q X∧Sv d (its T) X∧cnt F' n+jl (d+1) T=cnt F n)∨(e = .returned (.tuple #[.agg (ag ai).toArray,.int .i64 6])∧cnt F n<jl (d+1) T)) ∧
   More kk n V F ws F' ws'∧QL w0 w' P D gl n (kk++m) F' b V ws' (-1) false L M∧qQ M w w'∧w.heap.size≤w'.heap.size
theorem aX {M:List Nat}{w w':World}(h:∀ k ∈ M,k<w.heap.size)(q:Below w.heap.size w w'):qQ M w w':=fun k hk=>q.block k (h k hk)
theorem jR (q:ay):(ag ai).toArray.size=(ag q).toArray.size:=by simp [aO]
theorem jH {w:World}{g t:Nat}{cs:Array Value}(h:w.heap[g]? = some (.cells cs t (0,0)))(R:Array Value):(w.setRow g R).heap[g]? = some (.cells R t (0,0)):=by
 have h':w.heap[g]? = some (.cells cs.toList.toArray t (0,0)):=by simpa using h
 exact setRow_heap w g _ _ _ _ h
theorem Zk (w0:World)(P D gl n:Nat)(kk m:bY)(F:Nat→Bool)(b:Nat)(V:bY)(ws:bW)(L:List eH)(M:List Nat)(t:Value)(w:World)(hq:QL w0 w P D gl n (kk++m) F b V ws (-1) false L M) :
 Calls Tryz.prog 38 #[t,.pointer none] w fun e w'=>e = .returned (.tuple #[.agg (ag ai).toArray,.int .i64 0])∧QL w0 w' P D gl n (kk++m) F b V ws (-1) false L M∧Below w.heap.size w w':=by
 have hp0:=dF
 have hb0:=zS
 have SZ:=hid (bz ai)
 have SO:=hid (aW ai)
 have HQ:=hid hq
 generalize (ag ai).toArray=R at *
 have HN:=hid (ah w (.cells R 51))
 clear hq
 go_in
 go_wp2_with (first
  | (with_reducible refine wpList_store_row (o:=⟨none,.store _ (.tmp 4) _,_,_,_,_⟩) rfl 51 _ _ rfl w.heap.size R rfl rfl 51 R HN.out SZ.out rfl SO.out ?_))
 have hb1:=bC (aK w (.cells R 51)) (bJ (w.alloc (.cells R 51)) w.heap.size R) (Nat.le_refl _)
 refine bodyPost_ret (v := .tuple #[.agg R,.int .i64 0]) (aj Tryz.results38 _ _ w.heap.size 51 R (0,0) _ rfl (jH HN.out R) Tryz.underlying51 rfl SZ.out _ (by simp)) rfl ⟨rfl,HQ.out.below hb1,hb1⟩
theorem Dj (w0:World)(P D gl n:Nat)(kk m:bY)(F:Nat→Bool)(b:Nat)(V:bY)(ws:bW)(L:List eH)(M:List Nat)(t:Value)(d:Nat)(T:Kd (d+1))(q:ay)(X:Pt d)(w:World)(hq:QL w0 w P D gl n (kk++m) F b V ws (-1) false L M)
 (hT:kX T = .inl (q,X)) (hta:kL w (pK T) q false (.slice none 0 0) 0) (hl:Lies (IW kk n V F ws) d q X) :
 Calls Tryz.prog 38 #[t,.pointer (some ⟨pK T,0,none⟩)] w fun e w'=>uq w0 P D gl n kk m b V L M F ws d T w e w':=by
 obtain ⟨r0,c34,IG,_⟩:=hta.at_
 have hp0:=dF
 have n0:(q.ad == 0)=false:=by simpa using hl.ne
 have HN:=hid (fun W=>dR q W)
 rw [n0] at HN
 have HQ:=hid hq
 have HP:=hid (show ∀ w',Below w.heap.size w w'→uq w0 P D gl n kk m b V L M F ws d T w (.returned (.tuple #[.agg (ag q).toArray,.int .i64 0])) w' from fun w' hb=>⟨F,ws,.inl ⟨q,X,rfl,hl,by unfold its; rw [hT]; exact ahi d X,by unfold jl; rw [hT]; rfl⟩,More.refl,hq.below hb,aX hq.jY hb,hb.size⟩)
 have SZ:=hid (bz q)
 have SW:=hid (dL q)
 have SO:=hid (aW q)
 have SE:=hid (jR q)
 have HZ:=hid (ah w (.cells (ag ai).toArray 51))
 have KP:=hid (dm r0 (aK w (.cells (ag ai).toArray 51)))
 generalize pK T=a at *
 clear r0 hta hq hl n0 hT c34 IG
 generalize (ag ai).toArray=Z at *
 go_in
 go_wp2_with (first
  | (with_reducible refine wpList_load_mid (op:=⟨some 17,_,_,_,_,_⟩) rfl 51 _ rfl a 0 rfl (ag q) _ (KP.out) Tryz.underlying51 rfl SW.out ?_))
 refine (HN.out _).mono ?_
 rintro e w1 ⟨rfl,hb1⟩
 have HB1:=hid (aJ (aK w (.cells Z 51)) hb1)
 have HR1:=hid (dm KP.out hb1)
 have HZ1:=hid ((hb1.block _ (lt_of_block HZ.out)).trans HZ.out)
 clear hb1 KP HZ
 go_wp2_with (first
  | (with_reducible refine wpList_load_mid (op:=⟨some 23,_,_,_,_,_⟩) rfl 51 _ rfl a 0 rfl (ag q) _ (HR1.out) Tryz.underlying51 rfl SW.out ?_)
  | (with_reducible refine wpList_store_row (o:=⟨none,.store _ (.tmp 4) _,_,_,_,_⟩) rfl 51 _ _ rfl w.heap.size (ag q).toArray rfl rfl 51 Z HZ1.out SZ.out SE.out SO.out ?_))
 have hb2:=bC HB1.out (bJ w1 w.heap.size (ag q).toArray) (Nat.le_refl _)
 refine bodyPost_ret (v := .tuple #[.agg (ag q).toArray,.int .i64 0]) (aj Tryz.results38 _ _ w.heap.size 51 (ag q).toArray (0,0) _ rfl (jH HZ1.out _) Tryz.underlying51 rfl SZ.out _ (by simp)) rfl (HP.out _ hb2)
theorem QS {w0 w w':World}{P D gl n b:Nat}{V kk m:bY}{F:Nat→Bool}{ws:bW}{L:List eH}{M:List Nat}{G:Nat}{lf:Bool}(h:QL w0 w P D gl n (kk++m) F b V ws (-1) false L M)(q:Below w.heap.size w w')
 (h4:w'.heap[w.heap.size]? = some (.cells (ag ai).toArray 51 (0,0))) (hG:w'.heap[G]? = some (.cells #[.bool lf,.slice none 0 0,.slice none 0 0,.slice none 0 0] 118 (0,0))) (hG0:w.heap.size≤G) :
 WS w0 w w' P D gl n kk m F b V ws L M w.heap.size G lf (.slice none 0 0) (.slice none 0 0) (.slice none 0 0) [] [] []:=by
 refine ⟨⟨nY w w'++M,h.grow q,fun x hx=>List.mem_append_right _ hx,List.mem_append_left _ (dV.2 ⟨lt_of_block h4,Nat.le_refl _⟩),List.mem_append_left _ (dV.2 ⟨lt_of_block hG,hG0⟩),fun _ e=>(by cases e),fun _ e=>(by cases e),fun _ e=>(by cases e)⟩,
  ⟨hG,World.ownsRow_nil _ _ _ _,World.ownsRow_nil _ _ _ _,World.ownsRow_nil _ _ _ _,fun _ e=>(by cases e)⟩,h4,Nat.le_refl _,hG0,fun e=>(by cases e),aX h.jY q,q.size,h.bel.size,h.jY,fun r hr=>lt_of_block (h.rows r hr).1⟩
theorem adu {w0 w:World}{P D gl n b:Nat}{V:bY}{F:Nat→Bool}{ws:bW}{L:List eH}{M:List Nat}(a:Nat)(kk m:bY)(k v p:Value)(nd:az)(h:QL w0 w P D gl n (kk++m) F b V ws (-1) false L M)(hk:kk.length=32)(hm:m.length=32)(hn:NR w k v p nd)(hnb:NB nd)(hb:b<18446744073709551616)(hb0:b ≠ 0)(hc:checkN nd=0)(hF:F a=true)(hlow:∀ x,x<a→F x=false)(hws:ws.length≤1000000) :
 Calls Tryz.prog 59 #[.pointer (some ⟨P,0,none⟩),.agg #[.bool nd.lf,k,v,p]] w fun e w'=>e = .returned (.tuple #[.agg (ag (Aa kk b a nd)).toArray,.int .i64 0])∧QL w0 w' P D gl n (kk++m) (eG F a false) b V (ws++[(a,JZ kk b a nd)]) (-1) false L M∧qQ M w w'∧w.heap.size≤w'.heap.size:=by
 obtain ⟨bm,vw,hd,hf,a3,a4⟩:=h.po
 refine (ade P D gl bm n b a vw V ws (-1) false kk m F k v p nd w h.pl hd (fun e=>(hf P e).2 (List.mem_cons_self ..)) h.ktn h.tzn h.nek hk hm hn hnb hb hb0 hc hF hlow hws).mono ?_
 rintro e w' (⟨hg',_⟩ | ⟨_,he,hp,GL,hd',ht,hn'⟩)
 ·cases hg'
 ·have h2:=h.dev hd hf hd' hp ht (agp hn')
  rw [Qu] at h2;exact ⟨he,h2.1,h2.2,ht.size⟩
def WrN (kk:bY)(n:Nat)(V:bY)(nd:az)(F:Nat→Bool)(ws:bW)(q:ay)(er:Int)(F':Nat→Bool)(ws':bW):Prop :=
 More kk n V F ws F' ws'∧(er=0∧IW kk n V F' ws' q nd∧q.ad ≠ 0∧jq q=true∧cnt F' n+1=cnt F n∨er=6∧q=ai∧cnt F n=0)
theorem QT {w0 wS w:World}{P D gl n b:Nat}{V kk m:bY}{F:Nat→Bool}{ws:bW}{L:List eH}{M:List Nat}{B4 G:Nat}{lf:Bool}{k v p:Value}{kz vz:List ByteArray}{pz:List ay}(h:WS w0 wS w P D gl n kk m F b V ws L M B4 G lf k v p kz vz pz)(hk:kk.length=32)(hm:m.length=32)(hb:b<18446744073709551616)(hb0:b ≠ 0)(hc:checkN ⟨lf,kz,vz,pz⟩=0)(hws:ws.length≤1000000) :
 Calls Tryz.prog 59 #[.pointer (some ⟨P,0,none⟩),.agg #[.bool lf,k,v,p]] w fun e w'=>∃ F' ws',(∃ q er,e = .returned (.tuple #[.agg (ag q).toArray,.int .i64 er])∧WrN kk n V ⟨lf,kz,vz,pz⟩ F ws q er F' ws')∧WS w0 wS w' P D gl n kk m F' b V ws' L M B4 G lf k v p kz vz pz :=
 h.calls (A:=fun e F' ws' _=>∃ q er,e = .returned (.tuple #[.agg (ag q).toArray,.int .i64 er])∧WrN kk n V ⟨lf,kz,vz,pz⟩ F ws q er F' ws') fun M' hq hM=>by
  have hnb:=adn hc;rcases Ov F n hq.pl.sp.own with hno | ⟨a,hF,hlow⟩
  ·refine (adk k v p ⟨lf,kz,vz,pz⟩ hq h.nr hnb hb0 hc hno).mono ?_
   rintro e w' ⟨rfl,hb'⟩;exact ⟨F,ws,⟨ai,6,rfl,More.refl,.inr ⟨rfl,rfl,E5 F n (fun j _=>hno j)⟩⟩,hq.below hb',aX hq.jY hb',hb'.size⟩
  refine (adu a kk m k v p ⟨lf,kz,vz,pz⟩ hq hk hm h.nr hnb hb hb0 hc hF hlow hws).mono ?_;rintro e w' ⟨rfl,hq',hs,hsz⟩;obtain ⟨ha2,Lh⟩:=hq.pl.sp.own a hF;obtain ⟨h1,h2,h3⟩:=adr (kk:=kk) (V:=V) (F:=F) (ws:=ws) hc ha2 Lh hq.pl.sp.hi hb hb0;exact ⟨_,_,⟨_,0,rfl,adq _ Lh hF,.inl ⟨rfl,h1,h2,h3,QP Lh hF⟩⟩,hq',hs,hsz⟩
theorem Zl (l:Its 0):bf 0 l=0:=by
 induction l with
 | nil=>rfl
 | cons x r ih=>simpa [bf,jl] using ih
theorem Ad {P:Program}{ops:Array Oper}{rest:List Oper}{o:Oper}{a:Act}{w:World}{Q:Exit→Act→World→Prop}(hgd:o.guard=none)(t:TypeId)(len:Nat)(parts:Array (Nat×Operand))(ho:o.op = .buildSlice t len parts)(vs:Array (Nat×Value))(hv:(parts.map fun (i,x)=>(i,a.eval x))=vs)
 (v:Value) (w':World) (hr:(Instr.buildSlice t len vs).run P w = .ok v w') (h:wpList P ops Q rest (a.put o.dst v) w'):wpList P ops Q (o::rest) a w :=
 wpList_plain hgd fun K hK=>yN t len parts ho vs hv v w' hr (hK _ _ h)
theorem QU (w:World)(x y z:Value):(w.alloc (.cells #[x,y,z] 129)).cell? ⟨w.heap.size,0,none⟩=some x∧(w.alloc (.cells #[x,y,z] 129)).cell? ⟨w.heap.size,1,none⟩=some y∧(w.alloc (.cells #[x,y,z] 129)).cell? ⟨w.heap.size,2,none⟩=some z :=
 ⟨cell_of_row _ _ 0 _ _ _ (ah w _),cell_of_row _ _ 1 _ _ _ (ah w _),cell_of_row _ _ 2 _ _ _ (ah w _)⟩
theorem U7 (w0:World)(P D gl n:Nat)(kk m:bY)(F:Nat→Bool)(b:Nat)(V:bY)(ws:bW)(L:List eH)(M:List Nat)(t a g off c fr:Nat)(rt:Value)(T:Kd 1)(l:Its 0)(w:World)(hT:kX T = .inr l)(hq:QL w0 w P D gl n (kk++m) F b V ws (-1) false L M)
 (ht:w.heap[t]? = some (.cells #[.pointer (some ⟨P,0,none⟩),rt] 94 (0,0))) (U8:t ∈ M) (hta:kL w a ai true (.slice (some ⟨g,off,none⟩) l.length c) fr) (haM:a ∈ M) (hI:IS w (some ⟨g,off,none⟩) l.length 0 l) (hgM:g ∈ M) (hls:l.length≤512)
 (hkk:kk.length=32∧m.length=32∧b<18446744073709551616∧b ≠ 0) (hwl:ws.length+cnt F n≤100000) (hck:checkN ⟨true,l.map (·.1),l.map (fun x=>x.2.1), []⟩=0) :
 Calls Tryz.prog 38 #[.pointer (some ⟨t,0,none⟩),.pointer (some ⟨a,0,none⟩)] w fun e w'=>uq w0 P D gl n kk m b V L M F ws 0 T w e w':=by
 have HTC:=hid (cell_of_row w t 0 _ _ _ ht)
 have He:=hid U8
 have HKK:=hid hkk
 have H6:=hid hwl
 have OI:=hid hck
 have HPO:=hid (show ∀ q er F5 xA w',WrN kk n V ⟨true,l.map (·.1),l.map (fun x=>x.2.1), []⟩ F ws q er F5 xA→QL w0 w' P D gl n (kk++m) F5 b V xA (-1) false L M→qQ M w w'→w.heap.size≤w'.heap.size→uq w0 P D gl n kk m b V L M F ws 0 T w (.returned (.tuple #[.agg (ag q).toArray,.int .i64 er])) w' from fun q er F5 xA w' hn h1 h2 h3=>by
  have hf:jl (0+1) T=1+bf 0 l:=uj hT;have hi:its T=l:=by unfold its; rw [hT]; rfl
  rw [Zl] at hf;refine ⟨F5,xA, ?_,hn.1,h1,h2,h3⟩;rcases hn.2 with ⟨rfl,hl,hq0,hqk,hc⟩ | ⟨rfl,rfl,hc⟩
  ·refine .inl ⟨q,(show Pt 0 from l.map (fun x=>(x.1,x.2.1))),rfl,⟨hq0,hqk, ?_⟩,by rw [hi]; rfl,by omega⟩
   have e:dZ 0 (show Pt 0 from l.map (fun x=>(x.1,x.2.1)))=⟨true,l.map (·.1),l.map (fun x=>x.2.1), []⟩:=by
    show (⟨true,List.map (·.1) (l.map (fun x=>(x.1,x.2.1))),List.map (·.2) (l.map (fun x=>(x.1,x.2.1))), []⟩:az)=_;rw [List.map_map,List.map_map];rfl
   rw [e];exact hl
  exact .inr ⟨rfl,by omega⟩)
 clear ht U8 hkk hwl hck hT
 obtain ⟨r0,c34,IG,_⟩:=hta.at_
 have hp0:=dF
 have HN:=hid (fun W=>dR ai W)
 rw [show (ai.ad == 0)=true from rfl] at HN
 have HQ:=hid hq
 have HI:=hid hI
 have SZ:=hid (bz ai)
 have SW:=hid (dL ai)
 have SE:=hid jR
 have HZ:=hid (ah w (.cells (ag ai).toArray 51))
 have KP:=hid (dm r0 (aK w (.cells (ag ai).toArray 51)))
 have Nc:=ae c34 ((aK w (.cells (ag ai).toArray 51)).block _ (block_lt_of_cell c34))
 have Hf:=ae IG ((aK w (.cells (ag ai).toArray 51)).block _ (block_lt_of_cell IG))
 have HC:=hid (And.intro c34 IG)
 have HMA:=hid (And.intro haM hgM)
 obtain ⟨nl,hnl⟩:∃ n,l.length=n:=⟨_,rfl⟩
 have AL:=hid hnl
 have HLS:=hid hls
 rw [hnl] at IG Hf HC hls
 have nI:(nl:Int)≤512:=by omega
 clear r0 hta hq hI c34 IG haM hgM hnl hls
 obtain ⟨ZL,Dk⟩:∃ z,ag ai=z:=⟨_,rfl⟩
 have Zm:=hid Dk
 have SO:=hid (aW ai)
 have hb0:=zS
 rw [Dk] at hp0 HN SZ SW HZ KP Nc Hf SO hb0
 clear Dk
 go_in
 go_wp2_with (first
  | (with_reducible refine wpList_load_mid (op:=⟨some 17,_,_,_,_,_⟩) rfl 51 _ rfl a 0 rfl ZL _ (KP.out) Tryz.underlying51 rfl SW.out ?_))
 refine (HN.out _).mono ?_
 rintro e w1 ⟨rfl,hb1⟩
 have HB1:=hid (aJ (aK w (.cells ZL.toArray 51)) hb1)
 have HZ1:=hid ((hb1.block _ (lt_of_block HZ.out)).trans HZ.out)
 have ajl:=ae Nc (hb1.block _ (block_lt_of_cell Nc))
 have U9:=ae Hf (hb1.block _ (block_lt_of_cell Hf))
 clear hb1 KP HZ Nc Hf
 go_upto_region 6 with fail
 generalize hWs:World.alloc w1 (.cells #[.bool true,.slice none 0 0,.slice none 0 0,.slice none 0 0] 118)=w3
 have hst1:=ah w1 (.cells #[.bool true,.slice none 0 0,.slice none 0 0,.slice none 0 0] 118)
 have hst2:=aK w1 (.cells #[.bool true,.slice none 0 0,.slice none 0 0,.slice none 0 0] 118)
 rw [hWs] at hst1 hst2
 have HB3:=hid (aJ HB1.out hst2)
 have Nz:=hid (QS HQ.out HB3.out (by rw [Zm.out]; exact (hst2.block _ (lt_of_block HZ1.out)).trans HZ1.out) hst1 HB1.out.size)
 have s35:=ae U9 (hst2.block _ (block_lt_of_cell U9))
 clear hWs hst1 hst2 ajl U9 HZ1 HQ HN hp0 hb0
 generalize w1.heap.size=G at *
 have adv:=hid (show WS w0 w w3 P D gl n kk m F b V ws L M w.heap.size G true (.slice none ((l.take 0).map (·.1)).length 0) (.slice none ((l.take 0).map (fun x=>x.2.1)).length 0) (.slice none 0 0) ((l.take 0).map (·.1)) ((l.take 0).map (fun x=>x.2.1)) [] from Nz.out)
 clear Nz
 go_wp2_with fail
 go_loopw [7,8,9,10,34] (fun _ _ _ _ v34 wr=>∃ (i:Nat) (a1 a2:bO) (c1 c2:Nat),i≤nl∧v34 = .int .i64 (i:Int)∧WS w0 w wr P D gl n kk m F b V ws L M w.heap.size G true (.slice a1 i c1) (.slice a2 i c2) (.slice none 0 0) ((l.take i).map (·.1)) ((l.take i).map (fun x=>x.2.1)) []) (fun _ _ _ _ v _=>nl - (intOf v).toNat)
 case atStart=>exact ⟨0,none,none,0,0,Nat.zero_le _,rfl,adv.out⟩
 case round =>
  obtain ⟨i,a1,a2,c1,c2,hi,rfl,hws⟩:=hrel;have HW:=hid hws;clear hws adv;by_cases hlt:i<nl
  ·obtain ⟨x,hx⟩:∃ x,l[i]? = some x:=⟨_,List.getElem?_eq_getElem (by rw [AL.out]; exact hlt)⟩
   have bn:=hid hlt;have hx0:=(HI.out.move (HW.out.st g HMA.out.2)).at_ i x hx;obtain ⟨b1,o1,e1,q1⟩:=hx0;injection e1 with e1;injection e1 with e2 e3;subst e2 e3;have hix:=bT g off nl c i hlt;have c10:=q1.k;have c11:=q1.v;have c12:=q1.p;have k34:=HW.out.kept HMA.out.1 HC.out.1;have iI:(i:Int)<(nl:Int):=by omega
   have i0:(0:Int)≤(i:Int):=by omega
   have HX:=hid hx;have HT:=hid (bM l i x hx);have ajm:=ae k34 ((aK wr (.cells #[.string x.1,.string x.2.1,.pointer (dA 0 x.2.2)] 129)).block _ (block_lt_of_cell k34));clear hlt hi hx q1 k34;go_upto_region 9 with fail
   generalize hwi:World.alloc wr (.cells #[.string x.1,.string x.2.1,.pointer (dA 0 x.2.2)] 129)=wi at *;obtain ⟨j0,j1,j2⟩:=QU wr (.string x.1) (.string x.2.1) (.pointer (dA 0 x.2.2));have hj:=ah wr (.cells #[.string x.1,.string x.2.1,.pointer (dA 0 x.2.2)] 129);have Va:=HW.out.below (aK wr (.cells #[.string x.1,.string x.2.1,.pointer (dA 0 x.2.2)] 129));rw [hwi] at j0 j1 j2 hj Va;have HWI:=hid Va;have HJ:=hid hj;clear hwi Va hj hix c10 c11 c12;generalize wr.heap.size=B8 at *;obtain ⟨g0,g1,g2,g3⟩:=HWI.out.cells;have hwk:=ads HWI.out x.1 (by rw [List.length_map,List.length_take]; omega);rw [show ((l.take i).map (·.1)).length=i by rw [List.length_map,List.length_take,AL.out]; have:=bn.out; omega] at hwk;have HWK:=hid hwk;clear hwk;go_upto_region 11 with (at_builtin; obtain ⟨a3,c3,w5,hr,hc1,hf1,adw,hit⟩:=HWK.out; refine aS _ rfl _ _ 115 115 rfl _ _ rfl rfl hr ?_; have yt:=hid (And.intro adw hit); clear adw hit hr HWK)
   obtain ⟨h6,adx⟩:=yt.out;generalize hw6:World.setCell w5 ⟨G,1,none⟩ (.slice a3 (i+1) c3)=w6 at *;have Js:=hid h6;have hj6:=adx B8 _ HJ.out;have j16:=cell_of_row w6 B8 1 _ _ _ hj6;have aql:=Js.out.kept HMA.out.1 HC.out.1;obtain ⟨g06,g16,g26,g36⟩:=Js.out.cells;clear h6 adx hj6 hw6 yt hc1 hf1 j0 j1 j2 HJ g0 g1 g2 g3 HWI ajm;have hwv:=ajj Js.out x.2.1 (by rw [List.length_map,List.length_take]; omega);rw [show ((l.take i).map (fun x=>x.2.1)).length=i by rw [List.length_map,List.length_take,AL.out]; have:=bn.out; omega] at hwv;have HWV:=hid hwv;clear hwv;go_wp2_with (at_builtin; obtain ⟨a4,c4,w7,hr,hc2,hf2,anF⟩:=HWV.out; refine aS _ rfl _ _ 115 115 rfl _ _ rfl rfl hr ?_; have HW7:=hid anF; clear anF hr HWV)
   go_roundw
   case rel =>
    refine ⟨i+1,a3,a4,c3,c4,by have:=bn.out; omega,by go_num, ?_⟩;rw [HT.out,List.map_append,List.map_append];exact HW7.out
   case measure=>simp [intOf]; have:=bn.out; omega
  obtain rfl:i=nl:=by omega
  clear hi hlt;rw [List.take_of_length_le (Nat.le_of_eq AL.out)] at HW;obtain ⟨K1,hK1⟩:∃ z,Value.slice a1 i c1=z:=⟨_,rfl⟩
  obtain ⟨K2,hK2⟩:∃ z,Value.slice a2 i c2=z:=⟨_,rfl⟩
  obtain ⟨K3,hK3⟩:∃ z,Value.slice none 0 0=z:=⟨_,rfl⟩
  rw [hK1,hK2,hK3] at HW;clear hK1 hK2 hK3;have k0:=HW.out.kept He.out HTC.out;have HWR:=hid (QT (HW.out.below (Below.refl _ wr).drew) HKK.out.1 HKK.out.2.1 HKK.out.2.2.1 HKK.out.2.2.2 OI.out (by have:=H6.out; omega));have hrow:=HW.out.tn.cell;go_upto_region 18 with fail
  try simp only [Act.put]
  refine wp_region_noPanic ?_;refine wp_region_held_drew (S:=fun W=>W.cell? ⟨t,0,none⟩=some (.pointer (some ⟨P,0,none⟩))∧W.heap[G]? = some (.cells #[.bool true,K1,K2,K3] 118 (0,0))) (by kernel_rfl) ⟨k0,hrow⟩ (fun hHeld=>?_);refine tR 0 83 (h:=tR 1 84 (h:=tR 2 85 (h:=?_)));refine tK 3 86 (.pointer (some ⟨P,0,none⟩)) rfl (Or.inl ⟨by rfl, ?_⟩) ?_
  ·(intro w' hSw; have q0:=hSw.1; go_simp; try with_reducible rfl)
  try simp only [Act.put,pZ]
  refine tK 4 87 (.agg #[.bool true,K1,K2,K3]) rfl (Or.inl ⟨by rfl, ?_⟩) ?_
  ·(intro w' hSw; obtain ⟨q0,q1,q2,q3⟩:=dX hSw.2; go_simp; try with_reducible rfl)
  try simp only [Act.put,pZ]
  refine rD 5 rfl fun K9 hK=>?_;go_simp;go_at_call 59
  refine HWR.out.mono ?_;rintro e w5 ⟨F5,xA,⟨q,er,rfl,hwn⟩,hw5⟩;have yt:=hid hw5;have HWN:=hid hwn;clear hwn hw5 HWR k0 hrow;go_wp2_with fail;refine hK.out _ _ ⟨yt.out.kept He.out HTC.out,yt.out.tn.cell⟩ (fun hHeld=>?_);clear hK K9;try simp only [Act.put,pZ]
  refine tR 6 89 (h:=tR 7 90 (h:=?_));refine rD 8 rfl fun K9 hK=>?_;rw [if_pos (by kernel_rfl)];refine wp_store_row (o:=⟨none,.store _ (.tmp 4) _,_,_,_,_⟩) 51 _ _ rfl w.heap.size (ag q).toArray rfl rfl 51 (ag ai).toArray yt.out.r4 (bz q) (jR q) (aW q) ?_;have QV:=hid (yt.out.done (bJ w5 w.heap.size (ag q).toArray));have HRR:=hid (jH yt.out.r4 (ag q).toArray);refine hK.out _ _ ⟨ae HTC.out (QV.out.2.1 t He.out),((bJ w5 w.heap.size (ag q).toArray).block G yt.out.tn.lt (by simpa using yt.out.gk.2.2)).trans yt.out.tn.cell⟩ (fun hHeld=>?_);clear hK K9;try simp only [Act.put]
  refine tR 9 5 (h:=?_);refine wpAnyH_done (by decide +kernel) ?_ _;refine NoPanic.normal ?_;clear hHeld;go_wp2_with fail;refine bodyPost_ret (v := .tuple #[.agg (ag q).toArray,.int .i64 er]) (aj Tryz.results38 _ _ w.heap.size 51 (ag q).toArray (0,0) _ rfl HRR.out Tryz.underlying51 rfl (bz q) _ (by simp)) rfl ?_;exact HPO.out _ _ _ _ _ HWN.out QV.out.1 QV.out.2.1 QV.out.2.2
theorem Zn {κ:Type}(l:List (bK κ))(i:Nat)(x:bK κ)(h:l[i]? = some x):(l.take (i+1)).tail=if i=0 then [] else (l.take i).tail++[x]:=by
 rw [bM l i x h];cases i with
 | zero=>simp
 | succ i =>
   have h1:=(List.getElem?_eq_some_iff.1 h).1;match l,h1 with
   | y::r,_=>simp
theorem J4 {d:Nat}(l:Its d)(i:Nat)(x:bK (Kd d))(h:l[i]? = some x):bf d (l.take (i+1))=bf d (l.take i)+jl d x.2.2:=by
 rw [bM l i x h,fD];simp [bf]
structure BrS (kk:bY)(n:Nat)(V:bY)(F:Nat→Bool)(ws:bW)(d:Nat)(l:Its (d+1))(i:Nat)(F':Nat→Bool)(ws':bW)(X:List (ByteArray×ay×Pt d)):Prop where
 more:More kk n V F ws F' ws'
 sv:UB (fun (x:bK (Kd (d+1))) (y:ByteArray×ay×Pt d)=>y.1=x.1∧Sv d (its x.2.2) y.2.2) (l.take i) X
 lies:∀ y ∈ X,Lies (IW kk n V F' ws') d y.2.1 y.2.2
 num:cnt F' n+bf (d+1) (l.take i)=cnt F n
theorem BrS.next {kk:bY}{n:Nat}{V:bY}{F:Nat→Bool}{ws:bW}{d:Nat}{l:Its (d+1)}{i:Nat}{F' F'':Nat→Bool}{ws' Nb:bW}{X:List (ByteArray×ay×Pt d)}(h:BrS kk n V F ws d l i F' ws' X){x:bK (Kd (d+1))}(hx:l[i]? = some x)(hm:More kk n V F' ws' F'' Nb){q:ay}{Y:Pt d}(hl:Lies (IW kk n V F'' Nb) d q Y)(hs:Sv d (its x.2.2) Y)(hc:cnt F'' n+jl (d+1) x.2.2=cnt F' n) :
 BrS kk n V F ws d l (i+1) F'' Nb (X++[(x.1,q,Y)]):=by
 refine ⟨h.more.trans hm, ?_,fun y hy=>?_, ?_⟩
 ·rw [bM l i x hx]
  exact JK ⟨rfl,hs⟩ h.sv
 ·rcases List.mem_append.1 hy with e | e
  ·exact (h.lies y e).more hm.lq
  rw [List.mem_singleton.1 e];exact hl
 ·rw [J4 l i x hx]
  have:=h.num;omega
theorem Nh (w0:World)(P D gl n:Nat)(kk m:bY)(F:Nat→Bool)(b:Nat)(V:bY)(ws:bW)(L:List eH)(M:List Nat)(d t a g off c fr:Nat)(rt:Value)(T:Kd (d+2))(l:Its (d+1))(w:World)(hT:kX T = .inr l)(hq:QL w0 w P D gl n (kk++m) F b V ws (-1) false L M)
 (ht:w.heap[t]? = some (.cells #[.pointer (some ⟨P,0,none⟩),rt] 94 (0,0))) (U8:t ∈ M) (hta:kL w a ai false (.slice (some ⟨g,off,none⟩) l.length c) fr) (haM:a ∈ M) (hI:IS w (some ⟨g,off,none⟩) l.length (d+1) l) (hgM:g ∈ M) (hls:l.length≤512)
 (hkk:kk.length=32∧m.length=32∧b<18446744073709551616∧b ≠ 0) (hwl:ws.length+cnt F n≤100000) (hk:∀ x ∈ l,TR (IW kk n V F ws) w (fun k=>k ∈ M) (d+1) x.2.2)
 (hck:∀ X:Pt (d+1),Sv (d+1) l X→(∀ y ∈ (show List (ByteArray×ay×Pt d) from X),jq y.2.1=true)→checkN (dZ (d+1) X)=0)
 (ih:∀ x ∈ l,∀ (W:World) (F1:Nat→Bool) (ws1:bW) (M1:List Nat),QL w0 W P D gl n (kk++m) F1 b V ws1 (-1) false L M1→W.heap[t]? = some (.cells #[.pointer (some ⟨P,0,none⟩),rt] 94 (0,0))→t ∈ M1→TR (IW kk n V F1 ws1) W (fun k=>k ∈ M1) (d+1) x.2.2→ws1.length+cnt F1 n≤100000 →
   Calls Tryz.prog 38 #[.pointer (some ⟨t,0,none⟩),.pointer (dA (d+1) x.2.2)] W fun e w'=>uq w0 P D gl n kk m b V L M1 F1 ws1 d x.2.2 W e w') :
 Calls Tryz.prog 38 #[.pointer (some ⟨t,0,none⟩),.pointer (some ⟨a,0,none⟩)] w fun e w'=>uq w0 P D gl n kk m b V L M F ws (d+1) T w e w':=by
 have HTB:=hid ht
 have HTC:=hid (cell_of_row w t 0 _ _ _ ht)
 have He:=hid U8
 have HKK:=hid hkk
 have H6:=hid hwl
 have HK:=hid hk
 have auN:=hid hck
 have HIH:=hid ih
 have HBAD:=hid (show ∀ i F' ws' X F5 xA w' x,BrS kk n V F ws d l i F' ws' X→l[i]? = some x→More kk n V F' ws' F5 xA→cnt F' n<jl (d+1) x.2.2→QL w0 w' P D gl n (kk++m) F5 b V xA (-1) false L M→qQ M w w'→w.heap.size≤w'.heap.size→uq w0 P D gl n kk m b V L M F ws (d+1) T w (.returned (.tuple #[.agg (ag ai).toArray,.int .i64 6])) w' from fun i F' ws' X F5 xA w' x hb hx hm hc h1 h2 h3=>by
  have hf:jl (d+1+1) T=1+bf (d+1) l:=uj hT;have hn:=J4 l i x hx;have hs:bf (d+1) l=bf (d+1) (l.take (i+1))+bf (d+1) (l.drop (i+1)):=by rw [← fD,List.take_append_drop]
  have:=hb.num;exact ⟨F5,xA,.inr ⟨rfl,by omega⟩,hb.more.trans hm,h1,h2,h3⟩)
 have HPO:=hid (show ∀ X F' ws' q er F5 xA w',BrS kk n V F ws d l l.length F' ws' X→WrN kk n V (dZ (d+1) X) F' ws' q er F5 xA→QL w0 w' P D gl n (kk++m) F5 b V xA (-1) false L M→qQ M w w'→w.heap.size≤w'.heap.size→uq w0 P D gl n kk m b V L M F ws (d+1) T w (.returned (.tuple #[.agg (ag q).toArray,.int .i64 er])) w' from fun X F' ws' q er F5 xA w' hb hn h1 h2 h3=>by
  have hf:jl (d+1+1) T=1+bf (d+1) l:=uj hT;have hi:its T=l:=by unfold its; rw [hT]; rfl
  have hb4:=hb.num;have hb2:=hb.sv;rw [List.take_length] at hb4 hb2;refine ⟨F5,xA, ?_,hb.more.trans hn.1,h1,h2,h3⟩;rcases hn.2 with ⟨rfl,hl,hq0,hqk,hc⟩ | ⟨rfl,rfl,hc⟩
  ·exact .inl ⟨q,(show Pt (d+1) from X),rfl,⟨hq0,hqk,hl,fun y hy=>(hb.lies y hy).more hn.1.lq⟩,by rw [hi]; exact hb2,by omega⟩
  exact .inr ⟨rfl,by omega⟩)
 have aqm:=hid (show ∀ F' ws' X,BrS kk n V F ws d l l.length F' ws' X→checkN (dZ (d+1) (show Pt (d+1) from X))=0 from fun F' ws' X hb=>hck _ (by have:=hb.sv; rw [List.take_length] at this; exact this) (fun y hy=>(hb.lies y hy).may))
 clear ht U8 hkk hwl hck hT hk ih
 obtain ⟨r0,c34,IG,_⟩:=hta.at_
 have hp0:=dF
 have HN:=hid (fun W=>dR ai W)
 rw [show (ai.ad == 0)=true from rfl] at HN
 have HQ:=hid hq
 have HI:=hid hI
 have SZ:=hid (bz ai)
 have SW:=hid (dL ai)
 have SE:=hid jR
 have HZ:=hid (ah w (.cells (ag ai).toArray 51))
 have KP:=hid (dm r0 (aK w (.cells (ag ai).toArray 51)))
 have Nc:=ae c34 ((aK w (.cells (ag ai).toArray 51)).block _ (block_lt_of_cell c34))
 have Hf:=ae IG ((aK w (.cells (ag ai).toArray 51)).block _ (block_lt_of_cell IG))
 have HC:=hid (And.intro c34 IG)
 have HMA:=hid (And.intro haM hgM)
 obtain ⟨nl,hnl⟩:∃ n,l.length=n:=⟨_,rfl⟩
 have AL:=hid hnl
 have HLS:=hid hls
 rw [hnl] at IG Hf HC hls
 have nI:(nl:Int)≤512:=by omega
 clear r0 hta hq hI c34 IG haM hgM hnl hls
 obtain ⟨ZL,Dk⟩:∃ z,ag ai=z:=⟨_,rfl⟩
 have Zm:=hid Dk
 have SO:=hid (aW ai)
 have hb0:=zS
 rw [Dk] at hp0 HN SZ SW HZ KP Nc Hf SO hb0
 clear Dk
 go_in
 go_wp2_with (first
  | (with_reducible refine wpList_load_mid (op:=⟨some 17,_,_,_,_,_⟩) rfl 51 _ rfl a 0 rfl ZL _ (KP.out) Tryz.underlying51 rfl SW.out ?_))
 refine (HN.out _).mono ?_
 rintro e w1 ⟨rfl,hb1⟩
 have HB1:=hid (aJ (aK w (.cells ZL.toArray 51)) hb1)
 have HZ1:=hid ((hb1.block _ (lt_of_block HZ.out)).trans HZ.out)
 have ajl:=ae Nc (hb1.block _ (block_lt_of_cell Nc))
 have U9:=ae Hf (hb1.block _ (block_lt_of_cell Hf))
 clear hb1 KP HZ Nc Hf
 go_upto_region 6 with fail
 generalize hWs:World.alloc w1 (.cells #[.bool false,.slice none 0 0,.slice none 0 0,.slice none 0 0] 118)=w3
 have hst1:=ah w1 (.cells #[.bool false,.slice none 0 0,.slice none 0 0,.slice none 0 0] 118)
 have hst2:=aK w1 (.cells #[.bool false,.slice none 0 0,.slice none 0 0,.slice none 0 0] 118)
 rw [hWs] at hst1 hst2
 have HB3:=hid (aJ HB1.out hst2)
 have Nz:=hid (QS HQ.out HB3.out (by rw [Zm.out]; exact (hst2.block _ (lt_of_block HZ1.out)).trans HZ1.out) hst1 HB1.out.size)
 have s35:=ae U9 (hst2.block _ (block_lt_of_cell U9))
 clear hWs hst1 hst2 ajl U9 HZ1 HQ HN
 generalize w1.heap.size=G at *
 have adv:=hid (show WS w0 w w3 P D gl n kk m F b V ws L M w.heap.size G false (.slice none (0 - 1) 0) (.slice none 0 0) (.slice none 0 0) ((l.take 0).tail.map (·.1)) [] (([]:List (ByteArray×ay×Pt d)).map (·.2.1)) from Nz.out)
 have anH:=hid (show BrS kk n V F ws d l 0 F ws [] from ⟨More.refl,trivial,fun y hy=>absurd hy (by simp),rfl⟩)
 clear Nz
 go_wp2_with fail
 go_loopw [7,8,9,10,34] (fun _ _ _ _ v34 wr=>∃ (i:Nat) (a1 a3:bO) (c1 c3:Nat) (F':Nat→Bool) (ws':bW) (X:List (ByteArray×ay×Pt d)),i≤nl∧v34 = .int .i64 (i:Int)∧X.length=i∧WS w0 w wr P D gl n kk m F' b V ws' L M w.heap.size G false (.slice a1 (i - 1) c1) (.slice none 0 0) (.slice a3 i c3) ((l.take i).tail.map (·.1)) [] (X.map (·.2.1))∧BrS kk n V F ws d l i F' ws' X) (fun _ _ _ _ v _=>nl - (intOf v).toNat)
 case atStart=>exact ⟨0,none,none,0,0,F,ws, [],Nat.zero_le _,rfl,rfl,adv.out,anH.out⟩
 case round =>
  obtain ⟨i,a1,a3,c1,c3,F',ws',X,hi,rfl,hXl,hws,hbr⟩:=hrel;have HW:=hid hws;have Fz:=hid hbr;have HXL:=hid hXl;clear hws hbr adv anH hXl;by_cases hlt:i<nl
  ·obtain ⟨x,hx⟩:∃ x,l[i]? = some x:=⟨_,List.getElem?_eq_getElem (by rw [AL.out]; exact hlt)⟩
   have bn:=hid hlt;have hx0:=(HI.out.move (HW.out.st g HMA.out.2)).at_ i x hx;obtain ⟨b1,o1,e1,q1⟩:=hx0;injection e1 with e1;injection e1 with e2 e3;subst e2 e3;have hix:=bT g off nl c i hlt;have c10:=q1.k;have c11:=q1.v;have c12:=q1.p;have k34:=HW.out.kept HMA.out.1 HC.out.1;have iI:(i:Int)<(nl:Int):=by omega
   have i0:(0:Int)≤(i:Int):=by omega
   have HX:=hid hx;have HT:=hid (Zn l i x hx);have ajm:=ae k34 ((aK wr (.cells #[.string x.1,.string x.2.1,.pointer (dA (d+1) x.2.2)] 129)).block _ (block_lt_of_cell k34));clear hlt hi hx q1 k34;go_upto_region 9 with fail
   generalize hwi:World.alloc wr (.cells #[.string x.1,.string x.2.1,.pointer (dA (d+1) x.2.2)] 129)=wi at *;obtain ⟨j0,j1,j2⟩:=QU wr (.string x.1) (.string x.2.1) (.pointer (dA (d+1) x.2.2));have hj:=ah wr (.cells #[.string x.1,.string x.2.1,.pointer (dA (d+1) x.2.2)] 129);have Va:=HW.out.below (aK wr (.cells #[.string x.1,.string x.2.1,.pointer (dA (d+1) x.2.2)] 129));rw [hwi] at j0 j1 j2 hj Va;have HWI:=hid Va;have HJ:=hid hj;clear hwi Va hj hix c10 c11 c12;generalize wr.heap.size=B8 at *;obtain ⟨g0,g1,g2,g3⟩:=HWI.out.cells;by_cases hz:i=0
   ·have hz0:i=0:=hz
    subst hz0;have Js:=hid (show WS w0 w wi P D gl n kk m F' b V ws' L M w.heap.size G false (.slice a1 (0+1 - 1) c1) (.slice none 0 0) (.slice a3 0 c3) ((l.take (0+1)).tail.map (·.1)) [] (X.map (·.2.1)) from by
     rw [HT.out,if_pos rfl];exact HWI.out)
    clear g0 g1 g2 g3 HWI HJ hz;have zI:¬ ((0:Int)<((0:Nat):Int)):=by decide
    have KW:=hid (Js.out.calls (fn:=38) (args:=#[.pointer (some ⟨t,0,none⟩),.pointer (dA (d+1) x.2.2)]) (A:=fun e F5 xA w5=>((∃ q Y,e = .returned (.tuple #[.agg (ag q).toArray,.int .i64 0])∧Lies (IW kk n V F5 xA) d q Y∧Sv d (its x.2.2) Y∧cnt F5 n+jl (d+1) x.2.2=cnt F' n)∨(e = .returned (.tuple #[.agg (ag ai).toArray,.int .i64 6])∧cnt F' n<jl (d+1) x.2.2))∧More kk n V F' ws' F5 xA) (fun M' hq hM=>by
     have hmem:x ∈ l:=List.mem_of_getElem? HX.out;have hb5:=Fz.out.more.len;refine (HIH.out x hmem wi F' ws' M' hq ((Js.out.st t He.out).trans HTB.out) (hM t He.out) (((HK.out x hmem).keep (fun k hk=>Js.out.st k hk)).more Fz.out.more.lq hM) (by have:=H6.out; omega)).mono ?_;rintro e w5 ⟨F5,xA,h1,h2,h3,h4,h5⟩;exact ⟨F5,xA,⟨h1,h2⟩,h3,h4,h5⟩))
    go_upto_region 13 with fail
    go_wp2_with fail;refine KW.out.mono ?_;rintro e w7 ⟨F5,xA,⟨hres,hmore⟩,hw7⟩;have IJ:=hid hmore;have HW7:=hid hw7;clear hmore hw7 KW Js;rcases hres with ⟨q,Y,rfl,hl,hs,hc⟩ | ⟨rfl,hc⟩
    ·have HY:=hid (And.intro hl (And.intro hs hc))
     obtain ⟨RQ,hRQ⟩:∃ z,(ag q).toArray=z:=⟨_,rfl⟩
     have hsz1:=bz q;have hsz2:=jR q;have hsz3:=aW q;have hlp:=fun W=>Lt q W;rw [hRQ] at hsz1 hsz2 hsz3 hlp ⊢;rw [Zm.out] at hsz2;have HRQ:=hid hRQ;have SQ1:=hid hsz1;have SQ2:=hid hsz2;have SQ3:=hid hsz3;have HLP:=hid hlp;clear hRQ hsz1 hsz2 hsz3 hl hs hc hlp;go_upto_region 14 with (with_reducible refine wpList_store_row (o:=⟨none,.store _ (.tmp 9) _,_,_,_,_⟩) rfl 51 _ _ rfl w7.heap.size RQ rfl rfl 51 ZL.toArray (heap_alloc_new w7 _) SQ1.out SQ2.out SQ3.out ?_)
     generalize hWs:World.setRow _ w7.heap.size _=w8;have hst:=nD w7 ZL.toArray RQ 51 w8 hWs.symm;have HW8:=hid (HW7.out.below hst.2);have TJ:=hid hst.1;clear hWs hst HW7;generalize w7.heap.size=B9 at *;clear hp0 hb0;obtain ⟨g08,g18,g28,g38⟩:=HW8.out.cells;have hwk:=adt HW8.out q (by rw [List.length_map,HXL.out]; have:=HLS.out; have:=AL.out; have:=bn.out; omega);rw [HRQ.out,List.length_map,HXL.out] at hwk;have adA:=hid hwk;clear hwk;go_wp2_with (first
      | (with_reducible refine wpList_load_row (o:=⟨some 78,_,_,_,_,_⟩) rfl 51 _ rfl B9 rfl 51 RQ (0,0) _ TJ.out Tryz.underlying51 rfl SQ1.out ?_)
      | (with_reducible refine Ad (o:=⟨some 79,_,_,_,_,_⟩) rfl 116 1 _ rfl #[(0,.agg RQ)] (by simp [Act.eval,Act.put]) _ _ (HLP.out w8) ?_)
      | (at_builtin; obtain ⟨a9,c9,w9,hr,hc9,hf9,adB⟩:=adA.out; refine aS _ rfl _ _ 116 116 rfl _ _ rfl rfl hr ?_; have HW9:=hid adB; clear adB hr adA))
     go_roundw
     case rel =>
      refine ⟨0+1,a1,a9,c1,c9,F5,xA,X++[(x.1,q,Y)],by have:=bn.out; omega,by go_num,by rw [List.length_append,HXL.out]; rfl, ?_,Fz.out.next HX.out IJ.out HY.out.1 HY.out.2.1 HY.out.2.2⟩;rw [List.map_append];exact HW9.out
     case measure=>simp [intOf]; have:=bn.out; omega
    have HBC:=hid hc;rw [Zm.out];clear hc;go_upto_region 14 with (with_reducible refine wpList_store_row (o:=⟨none,.store _ (.tmp 9) _,_,_,_,_⟩) rfl 51 _ _ rfl w7.heap.size ZL.toArray rfl rfl 51 ZL.toArray (heap_alloc_new w7 _) SZ.out rfl SO.out ?_)
    generalize hWs:World.setRow _ w7.heap.size _=w8;have hst:=nD w7 ZL.toArray ZL.toArray 51 w8 hWs.symm;have HW8:=hid (HW7.out.below hst.2);have TJ:=hid hst.1;clear hWs hst HW7;generalize w7.heap.size=B9 at *;have hr4:=HW8.out.r4;rw [Zm.out] at hr4;have HR4:=hid hr4;clear hr4;go_wp2_with (with_reducible refine wpList_store_row (o:=⟨none,.store _ (.tmp 4) _,_,_,_,_⟩) rfl 51 _ _ rfl w.heap.size ZL.toArray rfl rfl 51 ZL.toArray HR4.out SZ.out rfl SO.out ?_)
    have QV:=HW8.out.done (bJ w8 w.heap.size ZL.toArray);have hpo:=HBAD.out 0 F' ws' X F5 xA _ x Fz.out HX.out IJ.out HBC.out QV.1 QV.2.1 QV.2.2;rw [Zm.out] at hpo;refine bodyPost_ret (v := .tuple #[.agg ZL.toArray,.int .i64 6]) (aj Tryz.results38 _ _ w.heap.size 51 ZL.toArray (0,0) _ rfl (jH HR4.out ZL.toArray) Tryz.underlying51 rfl SZ.out _ (by simp)) rfl hpo
   have hzI:(0:Int)<(i:Int):=by omega
   have HZ0:=hid hz;have hwk:=ads HWI.out x.1 (by rw [List.length_map,List.length_tail,List.length_take]; have:=HLS.out; have:=AL.out; omega);rw [show ((l.take i).tail.map (·.1)).length=i - 1 by rw [List.length_map,List.length_tail,List.length_take,AL.out]; have:=bn.out; omega,show i - 1+1=i by omega] at hwk;have HWK:=hid hwk;clear hwk hz;go_upto_region 11 with (at_builtin; obtain ⟨a4,c4,w5,hr,hc1,hf1,adw,hit⟩:=HWK.out; refine aS _ rfl _ _ 115 115 rfl _ _ rfl rfl hr ?_; have yt:=hid (And.intro adw hit); clear adw hit hr HWK)
   obtain ⟨h6,adx⟩:=yt.out;generalize hw6:World.setCell w5 ⟨G,1,none⟩ (.slice a4 i c4)=w6 at *;have Js:=hid (show WS w0 w w6 P D gl n kk m F' b V ws' L M w.heap.size G false (.slice a4 (i+1 - 1) c4) (.slice none 0 0) (.slice a3 i c3) ((l.take (i+1)).tail.map (·.1)) [] (X.map (·.2.1)) from by
    rw [HT.out,if_neg HZ0.out,List.map_append];exact h6)
   have j26:=cell_of_row w6 B8 2 _ _ _ (adx B8 _ HJ.out);have aql:=Js.out.kept HMA.out.1 HC.out.1;clear h6 adx hw6 yt hc1 hf1 j0 j1 j2 HJ g0 g1 g2 g3 HWI ajm hzI;have KW:=hid (Js.out.calls (fn:=38) (args:=#[.pointer (some ⟨t,0,none⟩),.pointer (dA (d+1) x.2.2)]) (A:=fun e F5 xA w5=>((∃ q Y,e = .returned (.tuple #[.agg (ag q).toArray,.int .i64 0])∧Lies (IW kk n V F5 xA) d q Y∧Sv d (its x.2.2) Y∧cnt F5 n+jl (d+1) x.2.2=cnt F' n)∨(e = .returned (.tuple #[.agg (ag ai).toArray,.int .i64 6])∧cnt F' n<jl (d+1) x.2.2))∧More kk n V F' ws' F5 xA) (fun M' hq hM=>by
    have hmem:x ∈ l:=List.mem_of_getElem? HX.out;have hb5:=Fz.out.more.len;refine (HIH.out x hmem w6 F' ws' M' hq ((Js.out.st t He.out).trans HTB.out) (hM t He.out) (((HK.out x hmem).keep (fun k hk=>Js.out.st k hk)).more Fz.out.more.lq hM) (by have:=H6.out; omega)).mono ?_;rintro e w5 ⟨F5,xA,h1,h2,h3,h4,h5⟩;exact ⟨F5,xA,⟨h1,h2⟩,h3,h4,h5⟩))
   go_upto_region 13 with fail
   go_wp2_with fail;refine KW.out.mono ?_;rintro e w7 ⟨F5,xA,⟨hres,hmore⟩,hw7⟩;have IJ:=hid hmore;have HW7:=hid hw7;clear hmore hw7 KW Js;rcases hres with ⟨q,Y,rfl,hl,hs,hc⟩ | ⟨rfl,hc⟩
   ·have HY:=hid (And.intro hl (And.intro hs hc))
    obtain ⟨RQ,hRQ⟩:∃ z,(ag q).toArray=z:=⟨_,rfl⟩
    have hsz1:=bz q;have hsz2:=jR q;have hsz3:=aW q;have hlp:=fun W=>Lt q W;rw [hRQ] at hsz1 hsz2 hsz3 hlp ⊢;rw [Zm.out] at hsz2;have HRQ:=hid hRQ;have SQ1:=hid hsz1;have SQ2:=hid hsz2;have SQ3:=hid hsz3;have HLP:=hid hlp;clear hRQ hsz1 hsz2 hsz3 hl hs hc hlp;go_upto_region 14 with (with_reducible refine wpList_store_row (o:=⟨none,.store _ (.tmp 9) _,_,_,_,_⟩) rfl 51 _ _ rfl w7.heap.size RQ rfl rfl 51 ZL.toArray (heap_alloc_new w7 _) SQ1.out SQ2.out SQ3.out ?_)
    generalize hWs:World.setRow _ w7.heap.size _=w8;have hst:=nD w7 ZL.toArray RQ 51 w8 hWs.symm;have HW8:=hid (HW7.out.below hst.2);have TJ:=hid hst.1;clear hWs hst HW7;generalize w7.heap.size=B9 at *;clear hp0 hb0;obtain ⟨g08,g18,g28,g38⟩:=HW8.out.cells;have hwk:=adt HW8.out q (by rw [List.length_map,HXL.out]; have:=HLS.out; have:=AL.out; have:=bn.out; omega);rw [HRQ.out,List.length_map,HXL.out] at hwk;have adA:=hid hwk;clear hwk;go_wp2_with (first
     | (with_reducible refine wpList_load_row (o:=⟨some 78,_,_,_,_,_⟩) rfl 51 _ rfl B9 rfl 51 RQ (0,0) _ TJ.out Tryz.underlying51 rfl SQ1.out ?_)
     | (with_reducible refine Ad (o:=⟨some 79,_,_,_,_,_⟩) rfl 116 1 _ rfl #[(0,.agg RQ)] (by simp [Act.eval,Act.put]) _ _ (HLP.out w8) ?_)
     | (at_builtin; obtain ⟨a9,c9,w9,hr,hc9,hf9,adB⟩:=adA.out; refine aS _ rfl _ _ 116 116 rfl _ _ rfl rfl hr ?_; have HW9:=hid adB; clear adB hr adA))
    go_roundw
    case rel =>
     refine ⟨i+1,a4,a9,c4,c9,F5,xA,X++[(x.1,q,Y)],by have:=bn.out; omega,by go_num,by rw [List.length_append,HXL.out]; rfl, ?_,Fz.out.next HX.out IJ.out HY.out.1 HY.out.2.1 HY.out.2.2⟩;rw [List.map_append];exact HW9.out
    case measure=>simp [intOf]; have:=bn.out; omega
   have HBC:=hid hc;rw [Zm.out];clear hc;go_upto_region 14 with (with_reducible refine wpList_store_row (o:=⟨none,.store _ (.tmp 9) _,_,_,_,_⟩) rfl 51 _ _ rfl w7.heap.size ZL.toArray rfl rfl 51 ZL.toArray (heap_alloc_new w7 _) SZ.out rfl SO.out ?_)
   generalize hWs:World.setRow _ w7.heap.size _=w8;have hst:=nD w7 ZL.toArray ZL.toArray 51 w8 hWs.symm;have HW8:=hid (HW7.out.below hst.2);have TJ:=hid hst.1;clear hWs hst HW7;generalize w7.heap.size=B9 at *;have hr4:=HW8.out.r4;rw [Zm.out] at hr4;have HR4:=hid hr4;clear hr4;go_wp2_with (with_reducible refine wpList_store_row (o:=⟨none,.store _ (.tmp 4) _,_,_,_,_⟩) rfl 51 _ _ rfl w.heap.size ZL.toArray rfl rfl 51 ZL.toArray HR4.out SZ.out rfl SO.out ?_)
   have QV:=HW8.out.done (bJ w8 w.heap.size ZL.toArray);have hpo:=HBAD.out i F' ws' X F5 xA _ x Fz.out HX.out IJ.out HBC.out QV.1 QV.2.1 QV.2.2;rw [Zm.out] at hpo;refine bodyPost_ret (v := .tuple #[.agg ZL.toArray,.int .i64 6]) (aj Tryz.results38 _ _ w.heap.size 51 ZL.toArray (0,0) _ rfl (jH HR4.out ZL.toArray) Tryz.underlying51 rfl SZ.out _ (by simp)) rfl hpo
  obtain rfl:i=nl:=by omega
  clear hi hlt;have hbr:=Fz.out;rw [← AL.out] at hbr;have aqs:=hid hbr;have ajo:=aqm.out F' ws' X hbr;have hnd:dZ (d+1) (show Pt (d+1) from X)=⟨false,(l.take i).tail.map (·.1), [],X.map (·.2.1)⟩:=by
   show (⟨false,(List.map (·.1) X).tail, [],List.map (·.2.1) X⟩:az)=_;rw [yI hbr.sv,AL.out,List.map_tail]
  rw [hnd] at ajo;have OI:=hid ajo;have HND:=hid hnd;have aqt:=hid (show ws'.length≤1000000 by have:=H6.out; have:=hbr.more.len; omega);clear hbr ajo hnd H6;have H6:=aqt;obtain ⟨K1,hK1⟩:∃ z,Value.slice a1 (i - 1) c1=z:=⟨_,rfl⟩
  obtain ⟨K2,hK2⟩:∃ z,Value.slice none 0 0=z:=⟨_,rfl⟩
  obtain ⟨K3,hK3⟩:∃ z,Value.slice a3 i c3=z:=⟨_,rfl⟩
  rw [hK1,hK2,hK3] at HW;clear hK1 hK2 hK3;have k0:=HW.out.kept He.out HTC.out;have HWR:=hid (QT (HW.out.below (Below.refl _ wr).drew) HKK.out.1 HKK.out.2.1 HKK.out.2.2.1 HKK.out.2.2.2 OI.out (by have:=H6.out; omega));have hrow:=HW.out.tn.cell;go_upto_region 18 with fail
  try simp only [Act.put]
  refine wp_region_noPanic ?_;refine wp_region_held_drew (S:=fun W=>W.cell? ⟨t,0,none⟩=some (.pointer (some ⟨P,0,none⟩))∧W.heap[G]? = some (.cells #[.bool false,K1,K2,K3] 118 (0,0))) (by kernel_rfl) ⟨k0,hrow⟩ (fun hHeld=>?_);refine tR 0 83 (h:=tR 1 84 (h:=tR 2 85 (h:=?_)));refine tK 3 86 (.pointer (some ⟨P,0,none⟩)) rfl (Or.inl ⟨by rfl, ?_⟩) ?_
  ·(intro w' hSw; have q0:=hSw.1; go_simp; try with_reducible rfl)
  try simp only [Act.put,pZ]
  refine tK 4 87 (.agg #[.bool false,K1,K2,K3]) rfl (Or.inl ⟨by rfl, ?_⟩) ?_
  ·(intro w' hSw; obtain ⟨q0,q1,q2,q3⟩:=dX hSw.2; go_simp; try with_reducible rfl)
  try simp only [Act.put,pZ]
  refine rD 5 rfl fun K9 hK=>?_;go_simp;go_at_call 59
  refine HWR.out.mono ?_;rintro e w5 ⟨F5,xA,⟨q,er,rfl,hwn⟩,hw5⟩;have yt:=hid hw5;have HWN:=hid hwn;clear hwn hw5 HWR k0 hrow;go_wp2_with fail;refine hK.out _ _ ⟨yt.out.kept He.out HTC.out,yt.out.tn.cell⟩ (fun hHeld=>?_);clear hK K9;try simp only [Act.put,pZ]
  refine tR 6 89 (h:=tR 7 90 (h:=?_));refine rD 8 rfl fun K9 hK=>?_;rw [if_pos (by kernel_rfl)];refine wp_store_row (o:=⟨none,.store _ (.tmp 4) _,_,_,_,_⟩) 51 _ _ rfl w.heap.size (ag q).toArray rfl rfl 51 (ag ai).toArray yt.out.r4 (bz q) (jR q) (aW q) ?_;have QV:=hid (yt.out.done (bJ w5 w.heap.size (ag q).toArray));have HRR:=hid (jH yt.out.r4 (ag q).toArray);refine hK.out _ _ ⟨ae HTC.out (QV.out.2.1 t He.out),((bJ w5 w.heap.size (ag q).toArray).block G yt.out.tn.lt (by simpa using yt.out.gk.2.2)).trans yt.out.tn.cell⟩ (fun hHeld=>?_);clear hK K9;try simp only [Act.put]
  refine tR 9 5 (h:=?_);refine wpAnyH_done (by decide +kernel) ?_ _;refine NoPanic.normal ?_;clear hHeld;go_wp2_with fail;refine bodyPost_ret (v := .tuple #[.agg (ag q).toArray,.int .i64 er]) (aj Tryz.results38 _ _ w.heap.size 51 (ag q).toArray (0,0) _ rfl HRR.out Tryz.underlying51 rfl (bz q) _ (by simp)) rfl ?_;exact HPO.out X F' ws' _ _ _ _ _ aqs.out (by rw [HND.out]; exact HWN.out) QV.out.1 QV.out.2.1 QV.out.2.2
theorem Vb (w0:World)(P D gl n:Nat)(kk m:bY)(b:Nat)(V:bY)(L:List eH)(t:Nat)(rt:Value)(hkk:kk.length=32∧m.length=32∧b<18446744073709551616∧b ≠ 0):∀ (d:Nat) (T:Kd (d+1)) (f s:ByteArray) (F:Nat→Bool) (ws:bW) (M:List Nat) (w:World),QL w0 w P D gl n (kk++m) F b V ws (-1) false L M →
 w.heap[t]? = some (.cells #[.pointer (some ⟨P,0,none⟩),rt] 94 (0,0))→t ∈ M→TR (IW kk n V F ws) w (fun k=>k ∈ M) (d+1) T→l7 d T f s→ws.length+cnt F n≤100000 →
 Calls Tryz.prog 38 #[.pointer (some ⟨t,0,none⟩),.pointer (dA (d+1) T)] w fun e w'=>uq w0 P D gl n kk m b V L M F ws d T w e w':=by
 intro d
 induction d with
 | zero =>
   intro T f s F ws M w hq ht U8 hT hw hwl;have h2:=hT.2;cases hb:kX T with
   | inl q =>
     obtain ⟨q,X⟩:=q;rw [hb] at h2;exact Dj w0 P D gl n kk m F b V ws L M _ 0 T q X w hq hb h2.1 h2.2
   | inr l =>
     rw [hb] at h2;obtain ⟨g,off,c,h3,⟨h4,_⟩,h5,_⟩:=h2;have hi:its T=l:=by unfold its; rw [hb]; rfl
     have ho:=hw.2.1;rw [hi] at ho;have hr:=hw.1;rw [hi] at hr;have hck:checkN ⟨true,l.map (·.1),l.map (fun x=>x.2.1), []⟩=0:=by
      have:=acC (L:=l) (X:=(show Pt 0 from l.map (fun x=>(x.1,x.2.1)))) (show Sv 0 l (show Pt 0 from l.map (fun x=>(x.1,x.2.1))) from rfl) hr ho;have e:dZ 0 (show Pt 0 from l.map (fun x=>(x.1,x.2.1)))=⟨true,l.map (·.1),l.map (fun x=>x.2.1), []⟩:=by
       show (⟨true,List.map (·.1) (l.map (fun x=>(x.1,x.2.1))),List.map (·.2) (l.map (fun x=>(x.1,x.2.1))), []⟩:az)=_;rw [List.map_map,List.map_map];rfl
      rw [e] at this;exact this
     exact U7 w0 P D gl n kk m F b V ws L M t (pK T) g off c _ rt T l w hb hq ht U8 h3 hT.1 h5 h4 ho.len hkk hwl hck
 | succ d ih =>
   intro T f s F ws M w hq ht U8 hT hw hwl;have h2:=hT.2;cases hb:kX T with
   | inl q =>
     obtain ⟨q,X⟩:=q;rw [hb] at h2;exact Dj w0 P D gl n kk m F b V ws L M _ (d+1) T q X w hq hb h2.1 h2.2
   | inr l =>
     rw [hb] at h2;obtain ⟨g,off,c,h3,⟨h4,_⟩,h5,h6⟩:=h2;have hi:its T=l:=by unfold its; rw [hb]; rfl
     have ho:=hw.2.1;have hr:=hw.1;have hl2:=hw.2.2 (by omega);rw [hi] at ho hr hl2;have hkw:∀ x ∈ l,∃ f t,l7 d x.2.2 f t:=pM (fun T=>∃ f t,l7 d T f t) (fun T f t h=>⟨f,t,h⟩) l f s hr;refine Nh w0 P D gl n kk m F b V ws L M d t (pK T) g off c _ rt T l w hb hq ht U8 h3 hT.1 h5 h4 ho.len hkk hwl h6 (fun X hX hk=>UC hX hr ho hl2 hk) (fun x hx W F1 ws1 M1 q1 q2 q3 q4 q5=>?_);obtain ⟨f',t',hx'⟩:=hkw x hx;exact ih x.2.2 f' t' F1 ws1 M1 W q1 q2 q3 q4 hx' q5
end
end Go.Proofs.YtljjcbmkbmloaaaGreatDoor
