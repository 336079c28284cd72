import Derived.Test.YtljjcbmkbmloaaaGreatDoorGTu9
import Derived.Test.YtljjcbmkbmloaaaGreatDoorGTu19
namespace Go.Proofs.YtljjcbmkbmloaaaGreatDoor
set_option maxRecDepth 4000
set_option linter.unusedVariables false
section
set_option linter.unusedVariables false
open Go.ChangeShapes Go.WideShapes Go.ChangeAt Go.RowKit
theorem QP {F:Nat→Bool}{a n:Nat}(h1:a<n)(h:F a=true):cnt (eG F a false) n+1=cnt F n:=by
 have:=VI F a false n;rw [if_pos ⟨h1,h⟩,if_neg (by simp)] at this;omega
end
section
set_option linter.unusedVariables false
open Go.ChangeShapes Go.WideShapes Go.ChangeAt Go.RowKit
end
section
set_option linter.unusedVariables false
open Go.ChangeShapes Go.WideShapes Go.ChangeAt Go.RowKit
end
section
set_option linter.unusedVariables false
open Go.ChangeShapes Go.WideShapes Go.ChangeAt Go.RowKit
open Go.Maps (Keyed)
theorem U6 {v:Value}{x:Bool}{ps:List MemPlace}(h:plainElem (H:=Unit) Tryz.prog 4 v=some (.lit (.bool x),ps)):v = .bool x:=by
 unfold plainElem at h;rw [Tryz.underlying4] at h;cases v <;> simp at h ⊢
 exact h.1
theorem QQ (n:Nat)(h:2≤n):cnt (eX n) n=n - 2:=by
 have h1:=Jj (eX n) (fun x hx=>by unfold eX at hx; simp at hx; exact hx.1) n h;have h2:tkn (eX n) n=[]:=by
  apply List.eq_nil_iff_forall_not_mem.2;intro x hx;obtain ⟨q1,q2,q3⟩:=(VL _ _ _).1 hx;unfold eX at q3;simp [q1,q2] at q3
 rw [h2] at h1;simpa using h1
end
section
set_option linter.unusedVariables false
open Go.ChangeShapes Go.WideShapes Go.ChangeAt Go.RowKit
open Go.Maps (Keyed)
end
section
set_option linter.unusedVariables false
open Go.ChangeShapes Go.WideShapes Go.ChangeAt Go.RowKit
end
section
set_option linter.unusedVariables false
open Go.ChangeShapes Go.WideShapes Go.ChangeAt Go.RowKit
end
end Go.Proofs.YtljjcbmkbmloaaaGreatDoor
