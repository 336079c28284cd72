import Derived.Test.YtljjcbmkbmloaaaGreatDoorRows
import Derived.WalkKit
import Derived.Deep.RegionHeld
namespace Go.Proofs.YtljjcbmkbmloaaaGreatDoor
section
variable {P:Program} {ops:Array Oper} {Q:Exit→Act→World→Prop} {md:Region.Mode} {S:World→Prop}
theorem pZ:(∀ (α:Type) (l:List α) (i:Nat) (a:α),l.toArray.setIfInBounds i a=(l.set i a).toArray)∧(∀ (α:Type) (x:α) (xs:List α) (a:α),(x::xs).set 0 a=a::xs)∧∀ (α:Type) (x:α) (xs:List α) (n:Nat) (a:α),(x::xs).set (n+1) a=x::xs.set n a :=
 ⟨fun _ _ _ _=>List.setIfInBounds_toArray ..,fun _ _ _ _=>rfl,fun _ _ _ _ _=>rfl⟩
theorem tK {fuel:Nat}{listed:Array Bool}{a:Act}{w:World}(i m:Nat){o1:Op}{o2:TypeId}{o3:String}{o4:Array Edge}{o5:Option (Nat×Bool)}(v:Value)(hi:ops[i]? = some ⟨some m,o1,o2,o3,o4,o5⟩)
 (hy:YieldsIf P ops S ⟨some m,o1,o2,o3,o4,o5⟩ v a) (h:wpAnyH P md ops Q S fuel (listed.setIfInBounds i true) (a.put (some m) v) w)
 (hs:Region.noSelect ops=true:=by kernel_rfl) (hf:Region.free md ops listed i=true:=by decide +kernel) (hr:(Region.ready md ops listed).contains i=true:=by decide +kernel)
 (hQ:∀ c a w,Q (.panic c) (a.put (some m) v) w→Q (.panic c) a w:=by exact fun _ _ _ h=>h) (hS:S w:=by assumption):wpAnyH P md ops Q S (fuel+1) listed a w :=
 wpAnyH_take (oi:=⟨some m,o1,o2,o3,o4,o5⟩) hi hs hf hr hQ hy hS h
theorem tR {fuel:Nat}{listed l':Array Bool}{a a':Act}{w:World}(i m:Nat){o1:Op}{o2:TypeId}{o3:String}{o4:Array Edge}{o5:Option (Nat×Bool)}{v:Value}(hi:ops[i]? = some ⟨some m,o1,o2,o3,o4,o5⟩:=by rfl)
 (hs:Region.noSelect ops=true:=by kernel_rfl) (hf:Region.free md ops listed i=true:=by decide +kernel) (hr:(Region.ready md ops listed).contains i=true:=by decide +kernel)
 (hQ:∀ c a w,Q (.panic c) (a.put (some m) v) w→Q (.panic c) a w:=by exact fun _ _ _ h=>h)
 (hy:YieldsIf P ops S ⟨some m,o1,o2,o3,o4,o5⟩ v a:=by (refine Or.inl ⟨by rfl, ?_⟩; intro w' hSw; go_simp; try with_reducible rfl)) (hS:S w:=by assumption)
 (hl:listed.setIfInBounds i true=l':=by ((try simp only [pZ]); exact rfl)) (ha:a.put (some m) v=a':=by ((try simp only [Act.put,pZ]); exact rfl))
 (h:wpAnyH P md ops Q S fuel l' a' w):wpAnyH P md ops Q S (fuel+1) listed a w:=by
 subst hl ha
 exact wpAnyH_take (oi:=⟨some m,o1,o2,o3,o4,o5⟩) hi hs hf hr hQ hy hS h
theorem rD {fuel:Nat}{listed:Array Bool}{a:Act}{w:World}(i:Nat){o:Oper}(ho:ops[i]? = some o)
 (h:∀ K':Act→World→Prop,Shut (∀ a w,S w→(S w→wpAnyH P md ops Q S fuel (listed.setIfInBounds i true) a w)→K' a w)→if Region.wanted o (yielded ops a.tmps)=true then Oper.wp P o a w K' Q else K' (a.put o.dst undef) w)
 (hr:Region.ready md ops listed=[i]:=by decide +kernel):wpAnyH P md ops Q S (fuel+1) listed a w :=
 wpAnyH_ready hr (by simp) (AllReadyH.cons ho h AllReadyH.nil)
end
end Go.Proofs.YtljjcbmkbmloaaaGreatDoor
