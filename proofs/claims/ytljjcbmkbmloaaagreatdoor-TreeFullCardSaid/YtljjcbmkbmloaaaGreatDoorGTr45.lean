import Derived.Test.YtljjcbmkbmloaaaGreatDoorGTr43
import Derived.Test.YtljjcbmkbmloaaaGreatDoorGTr44
import Derived.Test.YtljjcbmkbmloaaaGreatDoorGTrA
namespace Go.Proofs.YtljjcbmkbmloaaaGreatDoor
set_option maxRecDepth 4000
set_option linter.unusedVariables false
open Go.ChangeShapes Go.WideShapes Go.ChangeAt Go.RowKit
section
variable {w0 w w':World} {P D gl n b:Nat} {ks V:bY} {F:Nat→Bool} {ws:bW} {lim:Int} {dn:Bool} {L:List eU} {M:List Nat}
theorem QL.ag4 {l:List Nat}(h:QL w0 w P D gl n ks F b V ws lim dn L M)(t:Touch l w w')(hl:∀ k ∈ l,k ∈ M∧w0.heap.size≤k)(hr:∀ r ∈ L,r.1 ∉ l)(X:Nat)(h1:w.heap.size≤X)(h2:X<w'.heap.size):QL w0 w' P D gl n ks F b V ws lim dn L (X::M):=by
 have hp:=h.pl.lt
 refine ⟨?_,h.pl.touch t (fun e=>h.MR (hl P e).1),h.pn,h.kt,h.tz,fun r hm=>⟨(t.block _ (lt_of_block (h.rows r hm).1) (hr r hm)).trans (h.rows r hm).1,(h.rows r hm).2⟩,fun e=>?_⟩
 ·obtain ⟨bm,vw,a1,a2,a3,a4⟩:=h.po.grow t (fun k hk=>⟨List.mem_cons_of_mem _ (List.mem_append_right _ (hl k hk).1),(hl k hk).2⟩) X h1 h2
  have hk:∀ k ∈ P::(L.map (·.1)++X::M),k ∈ X::P::(L.map (·.1)++M):=fun k hk=>by
   simp only [List.mem_cons,List.mem_append] at hk ⊢
   rcases hk with h | h | h | h
   ·exact .inr (.inl h)
   ·exact .inr (.inr (.inl h))
   ·exact .inl h
   ·exact .inr (.inr (.inr h))
  exact ⟨bm,vw,a1,fun g hg=>⟨(a2 g hg).1,fun e=>(a2 g hg).2 (hk g e)⟩,fun k hm=>a3 k (hk k hm),a4⟩
 ·rcases List.mem_cons.1 e with e | e
  ·omega
  ·exact h.MR e
theorem QL.aph (h:QL w0 w P D gl n ks F b V ws lim dn L M)(q:Below w.heap.size w w')(X:Nat)(h1:w.heap.size≤X)(h2:X<w'.heap.size):QL w0 w' P D gl n ks F b V ws lim dn L (X::M) :=
 h.ag4 (l:=[]) (Touch.of_below q) (by simp) (by simp) X h1 h2
theorem QL.af8 {o o':Option Nat}(h:QL w0 w P D gl n ks F b V ws lim dn L M)(t:Touch o.toList w w')(ho:∀ g,o=some g→g ∈ M∧w0.heap.size≤g)(hr:∀ r ∈ L,o ≠ some r.1)(ho':o'=o∨∃ X,o'=some X∧w.heap.size≤X∧X<w'.heap.size) :
 ∃ M',QL w0 w' P D gl n ks F b V ws lim dn L M'∧(∀ k ∈ M,k ∈ M')∧∀ g,o'=some g→g ∈ M':=by
 have hl:∀ k ∈ o.toList,k ∈ M∧w0.heap.size≤k:=fun k hk=>ho k (by simpa using hk)
 have hrr:∀ r ∈ L,r.1 ∉ o.toList:=fun r hm e=>hr r hm (by simpa using e)
 rcases ho' with rfl | ⟨X,rfl,h1,h2⟩
 ·exact ⟨M,h.UN t hl hrr,fun k hk=>hk,fun g hg=>(ho g hg).1⟩
 ·exact ⟨X::M,h.ag4 t hl hrr X h1 h2,fun k hk=>List.mem_cons_of_mem _ hk,fun g hg=>by cases hg; exact List.mem_cons_self ..⟩
end
theorem aiH (w:World)(y:Nat)(hy:y<4294967296):US (w.alloc (.cells #[.int .u32 (y:Int)] 46)) (some ⟨w.heap.size,0,none⟩) 1 1 [y]:=by
 refine ⟨rfl, ?_, ?_⟩
 ·intro x hx
  rw [List.mem_singleton] at hx
  omega
 ·refine .inr ⟨w.heap.size,0,rfl,fun i hi=>?_⟩
  have:i=0:=by simpa using hi
  subst this
  exact cell_one_new w (.int .u32 (y:Int)) 46 0 _ rfl
theorem YX (w:World)(B n c y:Nat)(a:bO)(T:List Nat)(h:OU w B (.slice a n c) T)(hn:T.length=n)(hy:y<4294967296)(hl:n≤1000000)(hB:B≤w.heap.size) :
 ∃ a' c' w',(Builtin.append_ #[68,68] 68 #[.slice a n c,.slice (some ⟨w.heap.size,0,none⟩) 1 1]).run Tryz.prog (w.alloc (.cells #[.int .u32 (y:Int)] 46)) = .ok (.slice a' (n+1) c') w'∧OU w' B (.slice a' (n+1) c') (T++[y])∧Touch (Value.slice a n c).ownBlock.toList w w' ∧
   ((Value.slice a' (n+1) c').ownBlock=(Value.slice a n c).ownBlock∨∃ X,(Value.slice a' (n+1) c').ownBlock=some X∧w.heap.size≤X∧X<w'.heap.size):=by
 subst hn
 have hb:=(Below.refl w.heap.size w).alloc (Nat.le_refl _) (.cells #[.int .u32 (y:Int)] 46)
 obtain ⟨v',w',h1,h2,h3,h4⟩:=Hz _ B T.length 1 1 _ _ T [y] (bD h (Touch.of_below (l:=[]) hb) (fun _ _=>by simp)) (aiH w y hy) (fun e=>by cases e) (by omega) (Nat.le_trans hB hb.size)
 obtain ⟨a',c',rfl,_⟩:=aaR h2
 refine ⟨a',c',w',h1,by unfold OU; rw [List.length_append]; exact h2,Touch.trans (Touch.of_below hb) (Touch.grown h3), ?_⟩
 rcases h4 with h4 | h4
 ·exact .inl h4
 ·exact .inr ⟨_,h4,hb.size,(h2.lt _ h4).2⟩
abbrev ENode:=aC×Value×Value×Value
def api (e:ENode):List Value:=[.bool e.1.lf,e.2.1,e.2.2.1,e.2.2.2]
def amz (E:List ENode):List Value:=E.flatMap api
theorem YY {w:World}{X t:Nat}{fr:Nat×Nat}{R:Array Value}(h:w.heap[X]? = some (.cells R t fr)):w.rangeAt X 0 R.toList:=by
 intro j v hv
 rw [Nat.zero_add,cell_of_row _ _ _ _ _ _ h,← Array.getElem?_toList]
 exact hv
theorem Gm {B n k:Nat}{e:TypeId}{v:Value}{xs:List Value}{w w':World}(h:w.ownsRow B e k v n xs)(q:∀ g,v.ownBlock=some g→w'.heap[g]? = w.heap[g]?):w'.ownsRow B e k v n xs:=by
 refine ⟨h.1, ?_⟩
 rcases h.2 with hn | ⟨g,cap,cur,rfl,hb,hgg,rest⟩
 ·exact .inl hn
 ·exact .inr ⟨g,cap,cur,rfl,hb,(q g rfl).trans hgg,rest⟩
structure G2 (w0 W:World)(P D gl n:Nat)(ks:bY)(F:Nat→Bool)(b:Nat)(V:bY)(ws:bW)(lim:Int)(dn:Bool)(L:List eU)(v9 v10:Value)(n9 n10:Nat)(X:List ay)(E:List ENode):Prop where
 q:∃ M,QL w0 W P D gl n ks F b V ws lim dn L M∧(∀ g,v9.ownBlock=some g→g ∈ M)∧(∀ g,v10.ownBlock=some g→g ∈ M)
 a:W.ownsRow w0.heap.size 51 34 v9 n9 (kL X)
 i:W.ownsRow w0.heap.size 118 4 v10 n10 (amz E)
 nl:∀ r ∈ L,v9.ownBlock ≠ some r.1∧v10.ownBlock ≠ some r.1
section
variable {w0 W W':World} {P D gl n b:Nat} {ks V:bY} {F:Nat→Bool} {ws:bW} {lim:Int} {dn:Bool} {L:List eU} {v9 v10:Value} {n9 n10:Nat} {X:List ay} {E:List ENode}
end
def wsE (b:Nat)(E:List ENode):bW:=E.mapIdx fun j e=>(2+j,Gl keyE b (2+j) e.1)
end Go.Proofs.YtljjcbmkbmloaaaGreatDoor
