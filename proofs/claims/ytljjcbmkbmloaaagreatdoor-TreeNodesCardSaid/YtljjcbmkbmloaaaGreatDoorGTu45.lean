import Derived.Test.YtljjcbmkbmloaaaGreatDoorGTu43
import Derived.Test.YtljjcbmkbmloaaaGreatDoorGTu44
import Derived.Test.YtljjcbmkbmloaaaGreatDoorGTuA
namespace Go.Proofs.YtljjcbmkbmloaaaGreatDoor
set_option maxRecDepth 4000
set_option linter.unusedVariables false
open Go.ChangeShapes Go.WideShapes Go.ChangeAt Go.RowKit
section
variable {w0 w w':World} {P D gl n b:Nat} {ks V:bY} {F:Nat→Bool} {ws:bW} {lim:Int} {dn:Bool} {L:List eH} {M:List Nat}
theorem QL.anB {l:List Nat}(h:QL w0 w P D gl n ks F b V ws lim dn L M)(t:Touch l w w')(hl:∀ k ∈ l,k ∈ M∧w0.heap.size≤k)(hr:∀ r ∈ L,r.1 ∉ l)(X:Nat)(h1:w.heap.size≤X)(h2:X<w'.heap.size):QL w0 w' P D gl n ks F b V ws lim dn L (X::M):=by
 have hp:=h.pl.lt;refine ⟨?_,h.pl.touch t (fun e=>h.Ro (hl P e).1),h.pn,h.kt,h.tz,fun r hm=>⟨(t.block _ (lt_of_block (h.rows r hm).1) (hr r hm)).trans (h.rows r hm).1,(h.rows r hm).2⟩,fun e=>?_⟩
 ·obtain ⟨bm,vw,a1,a2,a3,a4⟩:=h.po.grow t (fun k hk=>⟨List.mem_cons_of_mem _ (List.mem_append_right _ (hl k hk).1),(hl k hk).2⟩) X h1 h2
  have hk:∀ k ∈ P::(L.map (·.1)++X::M),k ∈ X::P::(L.map (·.1)++M):=fun k hk=>by
   simp only [List.mem_cons,List.mem_append] at hk ⊢;rcases hk with h | h | h | h
   ·exact .inr (.inl h)
   ·exact .inr (.inr (.inl h))
   ·exact .inl h
   exact .inr (.inr (.inr h))
  exact ⟨bm,vw,a1,fun g hg=>⟨(a2 g hg).1,fun e=>(a2 g hg).2 (hk g e)⟩,fun k hm=>a3 k (hk k hm),a4⟩
 rcases List.mem_cons.1 e with e | e
 ·omega
 exact h.Ro e
theorem QL.aqi (h:QL w0 w P D gl n ks F b V ws lim dn L M)(q:Below w.heap.size w w')(X:Nat)(h1:w.heap.size≤X)(h2:X<w'.heap.size):QL w0 w' P D gl n ks F b V ws lim dn L (X::M) :=
 h.anB (l:=[]) (Touch.of_below q) (by simp) (by simp) X h1 h2
end
abbrev ENode:=az×Value×Value×Value
def aqj (e:ENode):List Value:=[.bool e.1.lf,e.2.1,e.2.2.1,e.2.2.2]
def anC (E:List ENode):List Value:=E.flatMap aqj
theorem Zj {w:World}{X t:Nat}{fr:Nat×Nat}{R:Array Value}(h:w.heap[X]? = some (.cells R t fr)):w.rangeAt X 0 R.toList:=by
 intro j v hv;rw [Nat.zero_add,cell_of_row _ _ _ _ _ _ h,← Array.getElem?_toList];exact hv
theorem G9 {B n k:Nat}{e:TypeId}{v:Value}{xs:List Value}{w w':World}(h:w.ownsRow B e k v n xs)(q:∀ g,v.ownBlock=some g→w'.heap[g]? = w.heap[g]?):w'.ownsRow B e k v n xs:=by
 refine ⟨h.1, ?_⟩;rcases h.2 with hn | ⟨g,cap,cur,rfl,hb,hgg,rest⟩
 ·exact .inl hn
 exact .inr ⟨g,cap,cur,rfl,hb,(q g rfl).trans hgg,rest⟩
structure G2 (w0 W:World)(P D gl n:Nat)(ks:bY)(F:Nat→Bool)(b:Nat)(V:bY)(ws:bW)(lim:Int)(dn:Bool)(L:List eH)(v9 v10:Value)(n9 n10:Nat)(X:List ay)(E:List ENode):Prop where
 q:∃ M,QL w0 W P D gl n ks F b V ws lim dn L M∧(∀ g,v9.ownBlock=some g→g ∈ M)∧(∀ g,v10.ownBlock=some g→g ∈ M)
 a:W.ownsRow w0.heap.size 51 34 v9 n9 (kP X)
 i:W.ownsRow w0.heap.size 118 4 v10 n10 (anC E)
 nl:∀ r ∈ L,v9.ownBlock ≠ some r.1∧v10.ownBlock ≠ some r.1
section
variable {w0 W W':World} {P D gl n b:Nat} {ks V:bY} {F:Nat→Bool} {ws:bW} {lim:Int} {dn:Bool} {L:List eH} {v9 v10:Value} {n9 n10:Nat} {X:List ay} {E:List ENode}
end
theorem J3 {α:Type}(l:List α)(h:l ≠ []):∃ m x,l=m++[x]:=⟨l.dropLast,l.getLast h,(List.dropLast_concat_getLast h).symm⟩
theorem Ac (n:Nat)(V:bY)(hV:V.length=n * 512):∀ (k:Nat) (ws:bW),ws.length=k→(∀ p ∈ ws,p.1<n∧p.2.length=512)→(jG V ws).length=n * 512
 | 0,ws,hk,_=>by rw [List.eq_nil_of_length_eq_zero hk]; exact hV
 | k+1,ws,hk,h=>by
   obtain ⟨m,p,rfl⟩:=J3 ws (fun e=>by rw [e] at hk; simp at hk);have ih:=Ac n V hV k m (by simpa using hk) (fun p hp=>h p (List.mem_append_left _ hp));have hp:=h p (by simp);rw [show jG V (m++[p])=fK (jG V m) (p.1 * 512) p.2 by simp [jG,List.foldl_append],jy _ _ _ (by rw [ih,hp.2]; omega)];exact ih
theorem Ha (n a:Nat)(V:bY)(hV:V.length=n * 512):∀ (k:Nat) (ws:bW),ws.length=k→(∀ p ∈ ws,p.1<n∧p.2.length=512)→yK (jG V ws) a=uD V ws a
 | 0,ws,hk,_=>by rw [List.eq_nil_of_length_eq_zero hk]; rfl
 | k+1,ws,hk,h=>by
   obtain ⟨m,p,rfl⟩:=J3 ws (fun e=>by rw [e] at hk; simp at hk);have hm:∀ p ∈ m,p.1<n∧p.2.length=512:=fun p hp=>h p (List.mem_append_left _ hp)
   have ih:=Ha n a V hV k m (by simpa using hk) hm;have hl:=Ac n V hV k m (by simpa using hk) hm;have hp:=h p (by simp);rw [show jG V (m++[p])=fK (jG V m) (p.1 * 512) p.2 by simp [jG,List.foldl_append],mW];by_cases e:p.1=a
   ·rw [if_pos e,← e]
    exact Y3 _ _ _ n hl hp.1 hp.2
   rw [if_neg e,UO _ _ _ _ n hl hp.1 (Nat.le_of_eq hp.2) e];exact ih
end Go.Proofs.YtljjcbmkbmloaaaGreatDoor
