import Derived.Test.YtljjcbmkbmloaaaGreatDoorGTu41
import Derived.Test.YtljjcbmkbmloaaaGreatDoorGTuA
namespace Go.Proofs.YtljjcbmkbmloaaaGreatDoor
set_option maxRecDepth 4000
set_option linter.unusedVariables false
open Go.ChangeShapes Go.WideShapes Go.ChangeAt Go.RowKit
section
variable {w0 w w':World} {P D gl n b:Nat} {ks V:bY} {F:Nat→Bool} {ws:bW} {lim:Int} {dn:Bool} {L:List eH} {M:List Nat}
theorem QL.upd {X:Nat}{R R':Array Value}{Y:TypeId}(h:QL w0 w P D gl n ks F b V ws lim dn ((X,R,Y)::L) M)(t:Touch [X] w w')(hR:w'.heap[X]? = some (.cells R' Y (0,0)))(hne:∀ r ∈ L,r.1 ≠ X):QL w0 w' P D gl n ks F b V ws lim dn ((X,R',Y)::L) M:=by
 have h0:=h.rows (X,R,Y) (List.mem_cons_self ..);have hl:∀ k ∈ [X],k ∈ P::(((X,R,Y)::L).map (·.1)++M)∧w0.heap.size≤k:=fun k hk=>by
  simp only [List.mem_singleton] at hk; subst hk;exact ⟨by simp,h0.2.2⟩
 refine ⟨h.po.touch t hl,h.pl.touch t (by simpa using fun e=>h0.2.1 e.symm),h.pn,h.kt,h.tz,fun r hr=>?_,h.Ro⟩;rcases List.mem_cons.1 hr with rfl | hr
 ·exact ⟨hR,h0.2⟩
 have h1:=h.rows r (List.mem_cons_of_mem _ hr);exact ⟨(t.block _ (lt_of_block h1.1) (by simpa using hne r hr)).trans h1.1,h1.2⟩
end
end Go.Proofs.YtljjcbmkbmloaaaGreatDoor
