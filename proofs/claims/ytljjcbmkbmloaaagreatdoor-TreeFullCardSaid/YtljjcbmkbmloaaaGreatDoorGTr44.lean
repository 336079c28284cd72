import Derived.Test.YtljjcbmkbmloaaaGreatDoorGTr9
import Derived.Test.YtljjcbmkbmloaaaGreatDoorGTr19
import Derived.Test.YtljjcbmkbmloaaaGreatDoorGTrA
namespace Go.Proofs.YtljjcbmkbmloaaaGreatDoor
set_option maxRecDepth 4000
set_option linter.unusedVariables false
section
set_option linter.unusedVariables false
open Go.ChangeShapes Go.WideShapes Go.ChangeAt Go.RowKit
theorem Qx {F:Nat→Bool}{a n:Nat}(h1:a<n)(h:F a=true):cnt (dJ F a false) n+1=cnt F n:=by
 have:=Vl F a false n
 rw [if_pos ⟨h1,h⟩,if_neg (by simp)] at this
 omega
end
section
set_option linter.unusedVariables false
open Go.ChangeShapes Go.WideShapes Go.ChangeAt Go.RowKit
theorem Hz (w:World)(base n m c:Nat)(v:Value)(a:bO)(xs l:List Nat)(hown:w.ownsRow base 46 1 v n (AB xs))(hU:US w a m c l)(hc:a=none→c=0)(h63:n+m≤1000000000)(hbase:base≤w.heap.size) :
 ∃ v' w',(Builtin.append_ #[68,68] 68 #[v,.slice a m c]).run Tryz.prog w = .ok v' w'∧w'.ownsRow base 46 1 v' (n+m) (AB (xs++l))∧w.grownBy w' v.ownBlock∧(v'.ownBlock=v.ownBlock∨v'.ownBlock=some w.heap.size):=by
 obtain ⟨i0,hi,hz0,hz1,hz2⟩:=info_parts Xv
 cases a with
 | none =>
   obtain rfl:=hc rfl
   have hl:l=[]:=by
    rcases hU.cells with h | ⟨b,off,h,_⟩
    ·exact h
    ·cases h
   subst hl
   have hm:m=0:=by have:=hU.len; simpa using this.symm
   subst hm
   exact ⟨v,w,run_append_owned_none (P:=Tryz.prog) (w:=w) base _ _ _ i0 1 Tryz.underlying68 hi v n _ hown,by simpa using hown,⟨rfl,rfl,rfl,Nat.le_refl _,fun _ _ _=>rfl⟩,.inl rfl⟩
 | some ad =>
   have hlen:=hU.len
   obtain ⟨v',w',h1,h2,h3,_,h5⟩:=run_append_own_at (P:=Tryz.prog) w base 68 68 46 i0 _ 1 4 Tryz.underlying68 hi hz0 hz1 hz2 rfl (by decide) v n _ hown ad m c (AB l) (by rw [NW]; omega) (by
    intro j u hj
    have hjl:j<l.length:=by
     have:=(List.getElem?_eq_some_iff.1 hj).1
     rwa [NW] at this
    rcases hU.cells with h0 | ⟨b,off,he,hcc⟩
    ·rw [h0] at hjl; simp at hjl
    ·obtain rfl:=Option.some.inj he
     have e2:(⟨b,off,none⟩:Addr).add j=⟨b,off+j,none⟩:=by unfold Addr.add; split <;> simp_all
     rw [e2,hcc j (by omega)]
     rw [Vq _ _ hjl] at hj
     exact hj) (by
    intro u hu
    simp only [AB,List.mem_map] at hu
    obtain ⟨z,_,rfl⟩:=hu
    rfl) (by unfold maxLen; omega) (by omega) hbase
   exact ⟨v',w',h1,by rw [NY]; exact h2,h3,h5⟩
end
section
set_option linter.unusedVariables false
open Go.ChangeShapes Go.WideShapes Go.ChangeAt Go.RowKit
end
section
set_option linter.unusedVariables false
open Go.ChangeShapes Go.WideShapes Go.ChangeAt Go.RowKit
open Go.Maps (Keyed)
theorem Qy (n:Nat)(h:2≤n):cnt (dE n) n=n - 2:=by
 have h1:=IQ (dE n) (fun x hx=>by unfold dE at hx; simp at hx; exact hx.1) n h
 have h2:tkn (dE n) n=[]:=by
  apply List.eq_nil_iff_forall_not_mem.2
  intro x hx
  obtain ⟨q1,q2,q3⟩:=(Vp _ _ _).1 hx
  unfold dE at q3
  simp [q1,q2] at q3
 rw [h2] at h1
 simpa using h1
end
section
set_option linter.unusedVariables false
open Go.ChangeShapes Go.WideShapes Go.ChangeAt Go.RowKit
open Go.Maps (Keyed)
end
section
set_option linter.unusedVariables false
open Go.ChangeShapes Go.WideShapes Go.ChangeAt Go.RowKit
end
section
set_option linter.unusedVariables false
open Go.ChangeShapes Go.WideShapes Go.ChangeAt Go.RowKit
end
end Go.Proofs.YtljjcbmkbmloaaaGreatDoor
