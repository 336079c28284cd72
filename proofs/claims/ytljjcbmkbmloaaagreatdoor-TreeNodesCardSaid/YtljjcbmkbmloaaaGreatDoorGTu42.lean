import Derived.Test.YtljjcbmkbmloaaaGreatDoorGTu27
import Derived.Test.YtljjcbmkbmloaaaGreatDoorGTu41
import Derived.Test.YtljjcbmkbmloaaaGreatDoorGTuA
namespace Go.Proofs.YtljjcbmkbmloaaaGreatDoor
set_option maxRecDepth 4000
set_option linter.unusedVariables false
open Go.ChangeShapes Go.WideShapes Go.ChangeAt Go.RowKit
def nY (w w':World):List Nat:=(List.range w'.heap.size).filter (fun k=>decide (w.heap.size≤k))
theorem dV {w w':World}{k:Nat}:k ∈ nY w w'↔k<w'.heap.size∧w.heap.size≤k:=by
 unfold nY;rw [List.mem_filter,List.mem_range,decide_eq_true_iff]
theorem QL.grow {w0 w w':World}{P D gl n:Nat}{ks:bY}{F:Nat→Bool}{b:Nat}{V:bY}{ws:bW}{lim:Int}{dn:Bool}{L:List eH}{M:List Nat}(h:QL w0 w P D gl n ks F b V ws lim dn L M)(q:Below w.heap.size w w'):QL w0 w' P D gl n ks F b V ws lim dn L (nY w w'++M):=by
 have h2:=h.below q;have hp:=h.pl.lt;refine ⟨?_,h2.pl,h.pn,h.kt,h.tz,h2.rows,fun hm=>?_⟩
 ·obtain ⟨bm,vw,a1,a2,a3,a4⟩:=h.po
  refine ⟨bm,vw,a1.below q,fun g hg=>⟨(a2 g hg).1,fun hm=>?_⟩,fun k hk=>?_,a4.trans (q.mono a4.size)⟩
  ·have h3:=a1.lt g hg
   have h4:=(a2 g hg).2;simp only [List.mem_cons,List.mem_append] at hm h4;rcases hm with e | e | e | e
   ·exact h4 (.inl e)
   ·exact h4 (.inr (.inl e))
   ·have:=(dV.1 e).2; omega
   exact h4 (.inr (.inr e))
  simp only [List.mem_cons,List.mem_append] at hk;rcases hk with e | e | e | e
  ·exact Nat.lt_of_lt_of_le (a3 k (by simp [e])) q.size
  ·exact Nat.lt_of_lt_of_le (a3 k (by simp only [List.mem_cons,List.mem_append]; exact .inr (.inl e))) q.size
  ·exact (dV.1 e).1
  exact Nat.lt_of_lt_of_le (a3 k (by simp only [List.mem_cons,List.mem_append]; exact .inr (.inr e))) q.size
 rcases List.mem_append.1 hm with e | e
 ·have:=(dV.1 e).2; omega
 exact h.Ro e
theorem gW.mono {LQ ZV:ay→az→Prop}{ok ok':Nat→Prop}{w w':World}{t P:Nat}{R:Rt}(h:gW LQ ok w t P R)(ht:w'.heap[t]? = w.heap[t]?)(hk:∀ k,ok k→w'.heap[k]? = w.heap[k]?)(hq:∀ q nd,LQ q nd→ZV q nd)(ho:∀ k,ok k→ok' k)(hl:∀ k,ok' k→k<w'.heap.size):gW ZV ok' w' t P R :=
 ⟨ht.trans h.blk,by
   have h2:=h.at_
   cases R with
   | none=>trivial
   | some p =>
     obtain ⟨d,T⟩:=p;rw [nz] at h2 ⊢;exact (h2.keep hk).more hq ho,h.wf,hl⟩
end Go.Proofs.YtljjcbmkbmloaaaGreatDoor
