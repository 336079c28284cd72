import Derived.Test.YtljjcbmkbmloaaaGreatDoorGTu20
import Derived.Test.YtljjcbmkbmloaaaGreatDoorGTu21
import Derived.Test.YtljjcbmkbmloaaaGreatDoorGTuA
namespace Go.Proofs.YtljjcbmkbmloaaaGreatDoor
set_option maxRecDepth 4000
set_option linter.unusedVariables false
open Go.ChangeShapes Go.WideShapes Go.ChangeAt Go.RowKit
theorem Px (ts:Array TypeId)(T:TypeId)(x y z:Int)(w:World)(h:(if y > x then y else x)=z):(Builtin.max_ ts T #[.int .i64 x,.int .i64 y]).run Tryz.prog w = .ok (.int .i64 z) w:=by
 rw [← h]; exact run_max_int2 w ts T .i64 .i64 x y
theorem aiN {w:World}{g c d B:Nat}{L:Its d}(h:OB w g c d L)(hb:B≤g)(hc:c≤maxLen):w.ownsRow B 129 3 (.slice (some ⟨g,0,none⟩) L.length c) L.length (aH d L):=by
 obtain ⟨rest,hg,hl⟩:=h.row;exact ⟨bu d L,.inr ⟨g,c,_,rfl,hb,hg,h.cap,hc,by simpa using hl,by simp [List.take_left' (bu d L)]⟩⟩
theorem aiO {w:World}{d B n:Nat}{v:Value}{L:Its d}(h:w.ownsRow B 129 3 v n (aH d L))(h0:L ≠ [])(hn:n=L.length):∃ g c,v = .slice (some ⟨g,0,none⟩) L.length c∧B≤g∧OB w g c d L:=by
 subst hn;rcases h.2 with ⟨_,e⟩ | ⟨g,cap,cur,rfl,hb,hc,q1,q2,q3,q4⟩
 ·exact absurd (List.length_eq_zero_iff.1 e) h0
 refine ⟨g,cap,rfl,hb,mO (w:=w) (cur:=cur.toList) (by simpa using hc) (by simpa using q3) (cur.toList.drop (L.length * 3)) ?_⟩;rw [← q4,List.take_append_drop]
theorem Py {w:World}{gA cA gB cB d:Nat}{A M:Its d}(hA:OB w gA cA d A)(hB:OB w gB cB d M)(hc:cA≤1001)(hn:A.length+M.length≤100000)(h0:A ≠ [])(ty:TypeId) :
 ∃ g c w',(Builtin.append_ #[121,121] ty #[.slice (some ⟨gA,0,none⟩) A.length cA,.slice (some ⟨gB,0,none⟩) M.length cB]).run Tryz.prog w = .ok (.slice (some ⟨g,0,none⟩) (A++M).length c) w'∧OB w' g c d (A++M)∧Touch [gA] w w'∧(g=gA∨g=w.heap.size):=by
 obtain ⟨i,hi,hz⟩:=Option.map_eq_some_iff.1 rU
 simp only [Prod.mk.injEq] at hz
 obtain ⟨h1,h2,h3⟩:=hz
 obtain ⟨rest,hgB,hlB⟩:=hB.row
 obtain ⟨v',w',hr,ho,hg,_,hb⟩:=run_append_own_at (P:=Tryz.prog) w 0 121 ty 129 i _ 3 40 Tryz.underlying121 hi h1 h2 h3 rfl (by decide) _ _ _ (aiN hA (Nat.zero_le _) (by unfold maxLen; omega)) ⟨gB,0,none⟩ M.length cB (aH d M) (bu d M) (fun j y hy=>by
  rw [Addr.add_mid,Nat.zero_add];exact df hgB j y (by rw [List.getElem?_append_left (List.getElem?_eq_some_iff.1 hy).1]; exact hy)) (mM d M) (by unfold maxLen; omega) (by omega) (Nat.zero_le _)
 rw [← dK] at ho
 obtain ⟨g,c,rfl,_,hob⟩:=aiO ho (fun e=>h0 (List.append_eq_nil_iff.1 e).1) (by rw [List.length_append])
 refine ⟨g,c,w',hr,hob,⟨hg.os,hg.tape,hg.output,hg.size,fun k hk hne=>hg.block k hk (fun e=>hne ?_)⟩, ?_⟩
 ·injection e with e; rw [e]; simp
 ·rcases hb with e | e
  ·left; injection e
  right; injection e
theorem aiP {W:World}{g c d:Nat}{L:Its (d+1)}(h:OB W g c (d+1) L)(h0:L ≠ [])(k:ByteArray):OB (W.setCell ⟨g,0,none⟩ (.string k)) g c (d+1) (oV (d+1) k L):=by
 obtain ⟨rest,hg,hlen⟩:=h.row;match L,h0,hg,hlen with
 | x::r,_,hg,hlen =>
   refine mO (w:=W) (fC hg 0 _) (by rw [List.length_set]; exact hlen) rest ?_;simp [aH,kE,oV]
theorem aiQ {LQ:ay→az→Prop}{w:World}{ok:Nat→Prop}{d:Nat}{L:Its d}(k:ByteArray)(hk:∀ x ∈ L,TR LQ w ok d x.2.2):∀ x ∈ oV d k L,TR LQ w ok d x.2.2:=by
 match d,L,hk with
 | 0,L,hk=>exact fun x hx=>hk x hx
 | d+1, [],hk=>exact fun x hx=>by simp [oV] at hx
 | d+1,y::r,hk =>
   intro x hx;rcases List.mem_cons.1 hx with rfl | hx
   ·exact hk y (by simp)
   exact hk x (by simp [hx])
def afF (LQ:ay→az→Prop)(ok:Nat→Prop)(d:Nat)(lf:Bool)(M:Its d)(w:World)(e:Ending)(w':World):Prop :=
 ∃ g c A,e = .returned (.tuple #[.slice (some ⟨g,0,none⟩) A.length c,.bool lf,.int .i64 0])∧w.heap.size≤g∧OB w' g c d A∧A.length+1≤c∧c≤1001∧bP d A M∧(∀ x ∈ A,TR LQ w' (fun k=>ok k∨w.heap.size≤k∧k ≠ g) d x.2.2)∧Below w.heap.size w w'
theorem pX (LQ:ay→az→Prop)(ok:Nat→Prop)(d t P:Nat)(lf:Bool)(T:Kd (d+1))(rt:Value)(f s:ByteArray)(w:World)(ht:w.heap[t]? = some (.cells #[.pointer (some ⟨P,0,none⟩),rt] 94 (0,0)))(hr:RD LQ w P)(hT:TR LQ w ok (d+1) T)(hok:∀ k,ok k→k<w.heap.size)(ho:qZ d (its T))(hlf:(d == 0)=lf)
 (hcl:∀ A,bP d A (its T)→dH (f,s) (d == 0) A=A) :
 Calls Tryz.prog 57 #[.pointer (some ⟨t,0,none⟩),.pointer (dA (d+1) T),.agg #[.string f,.string s]] w fun e w'=>afF LQ ok d lf (its T) w e w':=by
 refine (open_any LQ ok d t P T rt f s w ht hr hT hok (Nat.le_trans ho.len (by decide)) ho.head).mono ?_
 rintro e w' ⟨g,c,A,rfl,h1,h2,h3,h4,h5,h6,h7⟩
 rw [hcl A h5] at h2 h3 ⊢
 rw [hlf]
 exact ⟨g,c,A,rfl,h1,h2,h3,h4,h5,h6,h7⟩
theorem Gs {d:Nat}{fr:ByteArray}{L:Its d}{S:Its (d+1)}(h:iy d fr L S):S.length≤2:=by
 cases h <;> simp
def vT (LQ:ay→az→Prop)(ok:Nat→Prop)(g c d:Nat)(p q:bK (Kd (d+1)))(a b:Its (d+1))(w:World)(e:Ending)(w':World):Prop :=
 ∃ A B S,e = .returned (.tuple #[.slice (some ⟨g,0,none⟩) (a++(S++b)).length c,.int .i64 0])∧bP d A (its p.2.2)∧bP d B (its q.2.2)∧iy d p.1 (A++oV d q.1 B) S∧OB w' g c (d+1) (a++(S++b)) ∧
   (∀ x ∈ a++(S++b),TR LQ w' (fun k=>ok k∨w.heap.size≤k) (d+1) x.2.2)∧Touch [g] w w'
theorem Gt {LQ:ay→az→Prop}{w:World}{ok:Nat→Prop}{d g vc:Nat}{va:bO}{S:Its (d+1)}(h:jQ LQ w ok d va vc S)(hg:¬ ok g):VS w g va vc (d+1) S:=by
 rcases h.row with ⟨h1,h2⟩ | ⟨vb,h1,h2,h3,h4⟩
 ·exact .inl ⟨h1,h2⟩
 exact .inr ⟨vb,h1,fun e=>hg (e ▸ h2),h3,h4⟩
end Go.Proofs.YtljjcbmkbmloaaaGreatDoor
