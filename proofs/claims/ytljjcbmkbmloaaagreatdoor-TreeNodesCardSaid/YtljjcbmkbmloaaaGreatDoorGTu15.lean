import Derived.Test.YtljjcbmkbmloaaaGreatDoorGTu14
namespace Go.Proofs.YtljjcbmkbmloaaaGreatDoor
set_option maxRecDepth 4000
set_option linter.unusedVariables false
abbrev bK (κ:Type):=ByteArray×ByteArray×κ
abbrev bH:=ByteArray×ByteArray
def aY:ByteArray:=⟨#[]⟩
theorem oh (a:ByteArray):lo a aY=false:=by
 rw [vH,decide_eq_false_iff_not,show aY.toList=[] by rw [Lib.toList_data]; rfl];exact List.not_lt_nil _
theorem abB:aY.size=0:=rfl
theorem abC {s:ByteArray}(h:s ≠ aY):lo aY s=true:=by
 rcases vJ aY s with h1 | h1 | h1
 ·exact h1
 ·exact absurd h1.symm h
 rw [oh] at h1; cases h1
def Pt:Nat→Type
 | 0=>List bH
 | d+1=>List (ByteArray×ay×Pt d)
def Kd:Nat→Type
 | 0=>Unit
 | d+1=>Nat×((ay×Pt d) ⊕ List (bK (Kd d)))
abbrev Its (d:Nat):=List (bK (Kd d))
def pK {d:Nat}(T:Kd (d+1)):Nat:=(show Nat×((ay×Pt d) ⊕ List (bK (Kd d))) from T).1
def kX {d:Nat}(T:Kd (d+1)):(ay×Pt d) ⊕ Its d:=(show Nat×((ay×Pt d) ⊕ List (bK (Kd d))) from T).2
def mkK {d:Nat}(a:Nat)(s:(ay×Pt d) ⊕ Its d):Kd (d+1):=(a,s)
theorem ae6 {d:Nat}(a:Nat)(s:(ay×Pt d) ⊕ Its d):kX (mkK a s)=s:=rfl
def up:(d:Nat)→Pt d→Its d
 | 0,P=>List.map (fun x=>(x.1,x.2,())) (show List bH from P)
 | d+1,P=>List.map (fun x=>(x.1,aY,mkK 0 (.inl (x.2.1,x.2.2)))) (show List (ByteArray×ay×Pt d) from P)
def OO {d:Nat}:(ay×Pt d) ⊕ Its d→Its d
 | .inl q=>up d q.2
 | .inr l=>l
def its {d:Nat}(T:Kd (d+1)):Its d:=OO (kX T)
def cont:(d:Nat)→Its d→List bH
 | 0,L=>L.map (fun x=>(x.1,x.2.1))
 | d+1,L=>L.flatMap (fun x=>cont d (its x.2.2))
theorem zA (d:Nat):cont d []=[]:=by cases d <;> rfl
theorem dM:∀ (d:Nat) (a b:Its d),cont d (a++b)=cont d a++cont d b
 | 0,a,b=>by simp [cont]
 | d+1,a,b=>by simp [cont]
theorem gZ (d:Nat)(x:bK (Kd d))(b:Its d):cont d (x::b)=cont d [x]++cont d b:=dM d [x] b
theorem fP (d:Nat)(x:bK (Kd (d+1))):cont (d+1) [x]=cont d (its x.2.2):=by simp [cont]
def jl:(d:Nat)→Kd d→Nat
 | 0,_=>0
 | d+1,T=>match kX T with
   | .inl _=>0
   | .inr l=>1+(l.map (fun x=>jl d x.2.2)).sum
def bf (d:Nat)(L:Its d):Nat:=(L.map (fun x=>jl d x.2.2)).sum
theorem fD (d:Nat)(a b:Its d):bf d (a++b)=bf d a+bf d b:=by simp [bf]
theorem ae7:∀ (d:Nat) (P:Pt d),bf d (up d P)=0
 | 0,P=>by
   show List.sum (List.map _ (List.map _ (show List bH from P)))=0;induction (show List bH from P) with
   | nil=>rfl
   | cons x r ih=>simpa [jl] using ih
 | d+1,P=>by
   show List.sum (List.map _ (List.map _ (show List (ByteArray×ay×Pt d) from P)))=0;induction (show List (ByteArray×ay×Pt d) from P) with
   | nil=>rfl
   | cons x r ih=>simpa [jl,ae6] using ih
theorem nK {d:Nat}(T:Kd (d+1)):bf d (its T)≤jl (d+1) T:=by
 unfold its jl;cases kX T with
 | inl q=>show bf d (up d q.2)≤0; rw [ae7]; exact Nat.le_refl _
 | inr l=>show bf d l≤1+bf d l; omega
def nM {κ:Type}(lf:Bool)(x:bK κ):Nat:=if lf then 1+x.1.size+1+x.2.1.size else 1+x.1.size+44
def fQ {κ:Type}(lf:Bool)(l:List (bK κ)):Nat:=(l.map (nM lf)).sum
def jr {κ:Type}(lf:Bool)(l:List (bK κ)):Nat:=match l with
 | []=>2
 | x::r=>2+(if lf then nM lf x else 44)+fQ lf r
theorem iZ {κ:Type}(lf:Bool)(a b:List (bK κ)):fQ lf (a++b)=fQ lf a+fQ lf b:=by simp [fQ]
theorem gG {κ:Type}(lf:Bool)(x:bK κ)(b:List (bK κ)):fQ lf (x::b)=nM lf x+fQ lf b:=by simp [fQ]
theorem Bg {κ:Type}(lf:Bool)(l:List (bK κ)):jr lf l≤2+fQ lf l:=by
 cases l with
 | nil=>exact Nat.le_add_right ..
 | cons x r=>rw [gG]; simp only [jr]; cases lf <;> simp [nM] <;> omega
theorem abD {κ:Type}(lf:Bool)(x:bK κ)(r:List (bK κ)):fQ lf (x::r)≤jr lf (x::r)+x.1.size:=by
 rw [gG]; simp only [jr]; cases lf <;> simp [nM] <;> omega
def LV (f t k:ByteArray):Prop:=lo k f=false∧(t=aY∨lo k t=true)
structure gQ {κ:Type}(L:List (bK κ))(f t:ByteArray):Prop where
 rise:L.Pairwise (fun x y=>lo x.1 y.1=true)
 span:∀ x ∈ L,LV f t x.1
 key:∀ x ∈ L,1≤x.1.size∧x.1.size≤32
 val:∀ x ∈ L,x.2.1.size≤96
def Sep (f t k:ByteArray):Prop:=lo f k=true∧(t=aY∨lo k t=true)∧k.size≤32
def aP {κ:Type}(W:κ→ByteArray→ByteArray→Prop):List (bK κ)→ByteArray→ByteArray→Prop
 | [],_,_=>False
 | [x],f,t=>W x.2.2 f t
 | x::y::r,f,t=>W x.2.2 f y.1∧Sep f t y.1∧aP W (y::r) y.1 t
structure qZ {κ:Type}(d:Nat)(L:List (bK κ)):Prop where
 some:L ≠ []
 size:jr (d == 0) L≤512
 head:d ≠ 0→∀ x r,L=x::r→x.1=aY
 vals:d ≠ 0→∀ x ∈ L,x.2.1=aY
def lX:(d:Nat)→Its d→ByteArray→ByteArray→Prop
 | 0,L,f,t=>gQ L f t
 | d+1,L,f,t=>aP (fun T f t=>lX d (its T) f t∧qZ d (its T)∧(d ≠ 0→2≤(its T).length)) L f t
def TP (d:Nat)(T:Kd (d+1))(f t:ByteArray):Prop:=lX d (its T) f t∧qZ d (its T)
def l7 (d:Nat)(T:Kd (d+1))(f t:ByteArray):Prop:=lX d (its T) f t∧qZ d (its T)∧(d ≠ 0→2≤(its T).length)
theorem FB (d:Nat)(L:Its (d+1))(f t:ByteArray):lX (d+1) L f t=aP (l7 d) L f t:=rfl
theorem l7.weak {d:Nat}{T:Kd (d+1)}{f t:ByteArray}(h:l7 d T f t):TP d T f t:=⟨h.1,h.2.1⟩
theorem jP {a b c:ByteArray}(h:lo b a=false)(k:lo c b=false):lo c a=false:=by
 cases e:lo c a with
 | false=>rfl
 | true =>
   rcases vJ b a with h1 | h1 | h1
   ·rw [h] at h1; cases h1
   ·subst h1; rw [k] at e; cases e
   have:=iJ e h1; rw [k] at this; cases this
theorem lo_le {a b c:ByteArray}(h:lo a b=true)(k:lo c b=false):lo a c=true:=by
 cases e:lo a c with
 | true=>rfl
 | false=>rw [jP k e] at h; cases h
theorem le_lo {a b c:ByteArray}(h:lo b a=false)(k:lo b c=true):lo a c=true:=by
 cases e:lo a c with
 | true=>rfl
 | false=>rw [jP e h] at k; cases k
theorem LV.wide {f t k f' t':ByteArray}(h:LV f t k)(hf:lo f f'=false)(ht:t'=aY∨(t ≠ aY∧lo t' t=false)):LV f' t' k:=by
 refine ⟨jP hf h.1, ?_⟩;rcases ht with h1 | ⟨h1,h2⟩
 ·exact .inl h1
 rcases h.2 with h3 | h3
 ·exact absurd h3 h1
 exact .inr (lo_le h3 h2)
section
variable {κ:Type} {W:κ→ByteArray→ByteArray→Prop}
theorem Sep.ne {f t k:ByteArray}(h:Sep f t k):k ≠ aY:=fun e=>by have:=h.1; rw [e,oh] at this; cases this
theorem Ci (x y:bK κ)(r:List (bK κ))(f t:ByteArray):aP W (x::y::r) f t↔W x.2.2 f y.1∧Sep f t y.1∧aP W (y::r) y.1 t:=Iff.rfl
theorem eY (a:List (bK κ))(y:bK κ)(r:List (bK κ)):∀ (x:bK κ) (f t:ByteArray),aP W (x::a++y::r) f t↔aP W (x::a) f y.1∧Sep f t y.1∧aP W (y::r) y.1 t:=by
 induction a with
 | nil=>intro x f t; exact Iff.rfl
 | cons z a ih =>
   intro x f t;show W x.2.2 f z.1∧Sep f t z.1∧aP W (z::a++y::r) z.1 t↔(W x.2.2 f z.1∧Sep f y.1 z.1∧aP W (z::a) z.1 y.1)∧Sep f t y.1∧aP W (y::r) y.1 t;rw [ih];constructor
   ·rintro ⟨h1,⟨h2,h3,h4⟩,h5,⟨h6,h7,h8⟩,h9⟩
    exact ⟨⟨h1,⟨h2,.inr h6,h4⟩,h5⟩,⟨iJ h2 h6,h7,h8⟩,h9⟩
   rintro ⟨⟨h1,⟨h2,h3,h4⟩,h5⟩,⟨h6,h7,h8⟩,h9⟩;have hzy:lo z.1 y.1=true:=by
    rcases h3 with h3 | h3
    ·rw [h3,oh] at h6; cases h6
    exact h3
   exact ⟨h1,⟨h2,h7.elim .inl (fun h => .inr (iJ hzy h)),h4⟩,h5,⟨hzy,h7,h8⟩,h9⟩
theorem Cj (x x':bK κ)(r:List (bK κ))(f t:ByteArray)(h:x'.2.2=x.2.2):aP W (x'::r) f t↔aP W (x::r) f t:=by
 cases r with
 | nil=>show W _ f t↔W _ f t; rw [h]
 | cons y r=>show W x'.2.2 f _∧_↔W x.2.2 f _∧_; rw [h]
theorem pM (Q:κ→Prop)(hW:∀ T f t,W T f t→Q T):∀ (l:List (bK κ)) (f t:ByteArray),aP W l f t→∀ x ∈ l,Q x.2.2
 | [],f,t,h=>nofun
 | [x],f,t,h=>fun y hy=>by rw [List.mem_singleton.1 hy]; exact hW _ _ _ h
 | x::y::r,f,t,h=>fun z hz=>by
   rcases List.mem_cons.1 hz with rfl | hz
   ·exact hW _ _ _ h.1
   exact pM Q hW (y::r) _ _ h.2.2 z hz
theorem iT:∀ (l:List (bK κ)) (x:bK κ) (f t:ByteArray),aP W (x::l) f t→(∀ y ∈ l,Sep f t y.1)∧l.Pairwise (fun a b=>lo a.1 b.1=true)
 | [],x,f,t,h=>⟨nofun,List.Pairwise.nil⟩
 | y::r,x,f,t,h=>by
   obtain ⟨h1,h2,h3⟩:=h;obtain ⟨h4,h5⟩:=iT r y _ _ h3;refine ⟨fun z hz=>?_,List.pairwise_cons.2 ⟨fun z hz=>(h4 z hz).1,h5⟩⟩;rcases List.mem_cons.1 hz with rfl | hz
   ·exact h2
   have:=h4 z hz;exact ⟨iJ h2.1 this.1,this.2.1,this.2.2⟩
def Bh (f t f' t':ByteArray):Prop:=lo f f'=false∧(t'=aY∨(t ≠ aY∧lo t' t=false))
theorem Bh.sep {f t f' t' k:ByteArray}(w:Bh f t f' t')(h:Sep f t k):Sep f' t' k:=by
 refine ⟨le_lo w.1 h.1, ?_,h.2.2⟩;rcases w.2 with h1 | ⟨h1,h2⟩
 ·exact .inl h1
 rcases h.2.1 with h3 | h3
 ·exact absurd h3 h1
 exact .inr (lo_le h3 h2)
theorem Yo (f t:ByteArray):Bh f t f t:=⟨dP _,by by_cases h:t=aY; exact .inl h; exact .inr ⟨h,dP _⟩⟩
theorem Jv {f t f':ByteArray}(h:lo f f'=false):Bh f t f' t:=⟨h,(Yo f t).2⟩
theorem FC {f t t':ByteArray}(h:t'=aY∨(t ≠ aY∧lo t' t=false)):Bh f t f t':=⟨dP _,h⟩
theorem nN (hW:∀ T f t f' t',Bh f t f' t'→W T f t→W T f' t'):∀ (l:List (bK κ)) (f t f' t':ByteArray),Bh f t f' t'→aP W l f t→aP W l f' t'
 | [],f,t,f',t',w,h=>h
 | [x],f,t,f',t',w,h=>hW _ _ _ _ _ w h
 | x::y::r,f,t,f',t',w,h=>⟨hW _ _ _ _ _ (Jv w.1) h.1,w.sep h.2.1,nN hW (y::r) _ _ _ _ (FC w.2) h.2.2⟩
end
theorem OQ:∀ (d:Nat) (L:Its d) (f t f' t':ByteArray),Bh f t f' t'→lX d L f t→lX d L f' t'
 | 0,L,f,t,f',t',w,h=>⟨h.rise,fun x hx=>(h.span x hx).wide w.1 w.2,h.key,h.val⟩
 | d+1,L,f,t,f',t',w,h=>nN (W:=fun T f t=>lX d (its T) f t∧qZ d (its T)∧(d ≠ 0→2≤(its T).length)) (fun T f t f' t' w h=>⟨OQ d _ _ _ _ _ w h.1,h.2⟩) L f t f' t' w h
theorem OT {d:Nat}{T:Kd (d+1)}{f t f' t':ByteArray}(w:Bh f t f' t')(h:l7 d T f t):l7 d T f' t':=⟨OQ d _ _ _ _ _ w h.1,h.2⟩
structure Jw (f t:ByteArray)(x:bH):Prop where
 span:LV f t x.1
 low:1≤x.1.size
 high:x.1.size≤32
 val:x.2.size≤96
theorem Jw.wide {f t f' t':ByteArray}{x:bH}(w:Bh f t f' t')(h:Jw f t x):Jw f' t' x:=⟨h.span.wide w.1 w.2,h.low,h.high,h.val⟩
theorem wO {f t k:ByteArray}(h:Sep f t k):Bh f k f t:=⟨dP _,h.2.1.elim .inl (fun h1 => .inr ⟨h.ne,jd h1⟩)⟩
theorem zB {f t k:ByteArray}(h:Sep f t k):Bh k t f t:=Jv (jd h.1)
theorem Cm {d:Nat}(ih:∀ (L:Its d) (f t:ByteArray),lX d L f t→(∀ x ∈ cont d L,Jw f t x)∧(cont d L).Pairwise (fun x y=>lo x.1 y.1=true)) :
 ∀ (L:Its (d+1)) (f t:ByteArray),lX (d+1) L f t→(∀ x ∈ cont (d+1) L,Jw f t x)∧(cont (d+1) L).Pairwise (fun x y=>lo x.1 y.1=true)
 | [],f,t,h=>⟨nofun,List.Pairwise.nil⟩
 | [x],f,t,h=>by rw [fP]; exact ih _ _ _ h.1
 | x::y::r,f,t,h=>by
   obtain ⟨h1,h2,h3⟩:=h;obtain ⟨a1,a2⟩:=ih _ _ _ h1.1;obtain ⟨b1,b2⟩:=Cm ih (y::r) _ _ h3;rw [gZ,fP];refine ⟨fun z hz=>?_,List.pairwise_append.2 ⟨a2,b2,fun u hu v hv=>?_⟩⟩
   ·rcases List.mem_append.1 hz with hz | hz
    ·exact (a1 z hz).wide (wO h2)
    exact (b1 z hz).wide (zB h2)
   have h4:=(a1 u hu).span.2;have h5:=(b1 v hv).span.1;rcases h4 with h4 | h4
   ·exact absurd h4 h2.ne
   exact lo_le h4 h5
theorem wP:∀ (d:Nat) (L:Its d) (f t:ByteArray),lX d L f t→(∀ x ∈ cont d L,Jw f t x)∧(cont d L).Pairwise (fun x y=>lo x.1 y.1=true)
 | 0,L,f,t,h=>by
   refine ⟨fun x hx=>?_, ?_⟩
   ·obtain ⟨y,hy,rfl⟩:=List.mem_map.1 hx
    exact ⟨h.span y hy,(h.key y hy).1,(h.key y hy).2,h.val y hy⟩
   exact List.pairwise_map.2 h.rise
 | d+1,L,f,t,h=>Cm (wP d) L f t h
theorem pO:∀ (d:Nat) (T:Kd (d+1)) (f t:ByteArray),l7 d T f t→2 ^ d≤(cont d (its T)).length
 | 0,T,f,t,h=>by
   show 1≤(List.map _ (its T)).length;rw [List.length_map];exact List.length_pos_iff.2 h.2.1.some
 | d+1,T,f,t,h=>by
   have h2:=h.2.2 (by omega);have hall:=pM (fun T=>2 ^ d≤(cont d (its T)).length) (fun T f t h=>pO d T f t h) (its T) f t h.1;revert h2 hall
   generalize its T=L;intro h2 hall;match L,h2 with
   | x::y::r,_ =>
     rw [gZ,gZ (d+1) y,fP,fP];have e1:=hall x (by simp);have e2:=hall y (by simp);simp only [List.length_append];rw [Nat.pow_succ];omega
def ja (k v:ByteArray):List bH→List bH
 | []=>[(k,v)]
 | x::r=>if lo x.1 k=true then x::ja k v r else if x.1=k then (k,v)::r else (k,v)::x::r
def delS (k:ByteArray):List bH→List bH
 | []=>[]
 | x::r=>if lo x.1 k=true then x::delS k r else if x.1=k then r else x::r
def vN (k:ByteArray)(L:List bH):Bool:=L.any (fun x=>decide (x.1=k))
inductive Cg where
 | put (k v:ByteArray)
 | del (k:ByteArray)
def Cg.key:Cg→ByteArray
 | .put k _=>k
 | .del k=>k
def Cg.app:Cg→List bH→List bH
 | .put k v,L=>ja k v L
 | .del k,L=>delS k L
def Cg.err:Cg→List bH→Int
 | .put _ _,_=>0
 | .del k,L=>if vN k L then 0 else 8
theorem yC (k v:ByteArray)(B:List bH):∀ A:List bH,(∀ x ∈ A,lo x.1 k=true)→ja k v (A++B)=A++ja k v B
 | [],_=>rfl
 | x::A,h=>by
   show (if lo x.1 k=true then x::ja k v (A++B) else _)=_;rw [if_pos (h x (by simp)),yC k v B A (fun y hy=>h y (by simp [hy]))]; rfl
theorem CB (k v:ByteArray)(B:List bH)(hB:∀ x ∈ B,lo k x.1=true):∀ A:List bH,ja k v (A++B)=ja k v A++B
 | []=>by
   cases B with
   | nil=>rfl
   | cons y B =>
     have h1:=hB y (by simp);show (if lo y.1 k=true then _ else if y.1=k then _ else _)=_;rw [if_neg (by rw [jd h1]; simp),if_neg (fun e=>by rw [e,dP] at h1; cases h1)]; rfl
 | x::A=>by
   show (if lo x.1 k=true then x::ja k v (A++B) else if x.1=k then (k,v)::(A++B) else (k,v)::x::(A++B))=(if lo x.1 k=true then x::ja k v A else if x.1=k then (k,v)::A else (k,v)::x::A)++B;rw [CB k v B hB A];split
   ·rfl
   split <;> rfl
theorem yD (k:ByteArray)(B:List bH):∀ A:List bH,(∀ x ∈ A,lo x.1 k=true)→delS k (A++B)=A++delS k B
 | [],_=>rfl
 | x::A,h=>by
   show (if lo x.1 k=true then x::delS k (A++B) else _)=_;rw [if_pos (h x (by simp)),yD k B A (fun y hy=>h y (by simp [hy]))]; rfl
theorem CE (k:ByteArray)(B:List bH)(hB:∀ x ∈ B,lo k x.1=true):∀ A:List bH,delS k (A++B)=delS k A++B
 | []=>by
   cases B with
   | nil=>rfl
   | cons y B =>
     have h1:=hB y (by simp);show (if lo y.1 k=true then _ else if y.1=k then _ else _)=_;rw [if_neg (by rw [jd h1]; simp),if_neg (fun e=>by rw [e,dP] at h1; cases h1)]; rfl
 | x::A=>by
   show (if lo x.1 k=true then x::delS k (A++B) else if x.1=k then (A++B) else x::(A++B))=(if lo x.1 k=true then x::delS k A else if x.1=k then A else x::A)++B;rw [CE k B hB A];split
   ·rfl
   split <;> rfl
theorem Cg.VX (c:Cg)(A X B:List bH)(hA:∀ x ∈ A,lo x.1 c.key=true)(hB:∀ x ∈ B,lo c.key x.1=true):c.app (A++(X++B))=A++(c.app X++B):=by
 cases c with
 | put k v=>show ja k v _=_; rw [yC k v _ A hA,CB k v B hB]; rfl
 | del k=>show delS k _=_; rw [yD k _ A hA,CE k B hB]; rfl
theorem Cg.ae8 (c:Cg)(A X B:List bH)(hA:∀ x ∈ A,lo x.1 c.key=true)(hB:∀ x ∈ B,lo c.key x.1=true):c.err (A++(X++B))=c.err X:=by
 cases c with
 | put k v=>rfl
 | del k =>
   show (if vN k _ then (0:Int) else 8)=if vN k X then 0 else 8;have e:vN k (A++(X++B))=vN k X:=by
    unfold vN;rw [List.any_append,List.any_append];have h1:A.any (fun x=>decide (x.1=k))=false:=by
     rw [List.any_eq_false];intro x hx e;have:=hA x hx;rw [of_decide_eq_true e] at this;exact absurd this (by rw [show Cg.key (.del k)=k from rfl,dP]; simp)
    have h2:B.any (fun x=>decide (x.1=k))=false:=by
     rw [List.any_eq_false];intro x hx e;have:=hB x hx;rw [of_decide_eq_true e] at this;exact absurd this (by rw [show Cg.key (.del k)=k from rfl,dP]; simp)
    rw [h1,h2]; simp
   rw [e]
theorem LW (k v:ByteArray)(A B:List bH)(hA:∀ x ∈ A,lo x.1 k=true)(hB:∀ x ∈ B,lo k x.1=true):ja k v (A++B)=A++(k,v)::B:=by
 have:=Cg.VX (.put k v) A [] B hA hB;exact this
theorem FD (k v u:ByteArray)(A B:List bH)(hA:∀ x ∈ A,lo x.1 k=true):ja k v (A++(k,u)::B)=A++(k,v)::B:=by
 rw [yC k v _ A hA];show A++(if lo k k=true then _ else if k=k then _ else _)=_;rw [if_neg (by rw [dP]; simp),if_pos rfl]
theorem FH (k u:ByteArray)(A B:List bH)(hA:∀ x ∈ A,lo x.1 k=true):delS k (A++(k,u)::B)=A++B:=by
 rw [yD k _ A hA];show A++(if lo k k=true then _ else if k=k then _ else _)=_;rw [if_neg (by rw [dP]; simp),if_pos rfl]
def ofS (s:bH)(k:ByteArray)(nk:Option ByteArray):bH :=
 (if lo s.1 k=true then k else s.1,match nk with
   | none=>s.2
   | some n=>if s.2=aY∨lo n s.2=true then n else s.2)
def oC {κ:Type}(s:bH)(l:List (bK κ))(i:Nat):bH:=ofS s ((l[i]?.map (·.1)).getD aY) (l[i+1]?.map (·.1))
def emptyS (s:bH):Bool := !decide (s.2=aY) && !lo s.1 s.2
def qN (s:bH)(k:ByteArray):Bool := !lo k s.1 && (decide (s.2=aY) || lo k s.2)
def rH {κ:Type}(s:bH)(lf:Bool)(l:List (bK κ))(i:Nat)(x:bK κ):Bool:=if lf then qN s x.1 else !emptyS (oC s l i)
def kD {κ:Type}(s:bH)(lf:Bool)(l:List (bK κ)):Nat→List (bK κ)
 | 0=>[]
 | i+1=>kD s lf l i++(match l[i]? with
   | some x=>if rH s lf l i x=true then [x] else []
   | none=>[])
def dH {κ:Type}(s:bH)(lf:Bool)(l:List (bK κ)):List (bK κ):=kD s lf l l.length
section
variable {κ:Type}
theorem bM (l:List (bK κ))(i:Nat)(x:bK κ)(h:l[i]? = some x):l.take (i+1)=l.take i++[x]:=by rw [List.take_add_one,h]; rfl
theorem tN (s:bH)(lf:Bool)(l:List (bK κ))(i:Nat)(x:bK κ)(h:l[i]? = some x):kD s lf l (i+1)=kD s lf l i++(if rH s lf l i x=true then [x] else []):=by
 show _++(match l[i]? with | some x=>if rH s lf l i x=true then [x] else [] | none=>[])=_;rw [h]
theorem TT (s:bH)(lf:Bool)(l:List (bK κ))(i:Nat)(h:l[i]? = none):kD s lf l (i+1)=kD s lf l i:=by
 show kD s lf l i++(match l[i]? with | some x=>if rH s lf l i x=true then [x] else [] | none=>[])=_;rw [h,List.append_nil]
theorem rJ (s:bH)(lf:Bool)(l:List (bK κ)):∀ i,(kD s lf l i).Sublist (l.take i)
 | 0=>List.nil_sublist _
 | i+1=>by
   show (kD s lf l i++(match l[i]? with | some x=>if rH s lf l i x=true then [x] else [] | none=>[])).Sublist _;cases h:l[i]? with
   | none=>rw [List.take_of_length_le (by have:=List.getElem?_eq_none_iff.1 h; omega)]; simpa using (rJ s lf l i).trans (List.take_sublist _ _)
   | some x =>
     rw [bM l i x h];refine (rJ s lf l i).append ?_;show (if rH s lf l i x=true then [x] else []).Sublist [x];split
     ·exact List.Sublist.refl _
     exact List.nil_sublist _
theorem rM (s:bH)(lf:Bool)(l:List (bK κ))(i:Nat):(kD s lf l i).length≤i:=Nat.le_trans (rJ s lf l i).length_le (by rw [List.length_take]; omega)
theorem Bi (s:bH)(lf:Bool)(l:List (bK κ))(h:∀ i x,l[i]? = some x→rH s lf l i x=true):∀ i,kD s lf l i=l.take i
 | 0=>rfl
 | i+1=>by
   cases hx:l[i]? with
   | none =>
     show _++(match l[i]? with | some x=>if rH s lf l i x=true then [x] else [] | none=>[])=_;rw [hx,Bi s lf l h i,List.take_of_length_le (by have:=List.getElem?_eq_none_iff.1 hx; omega),List.take_of_length_le (by have:=List.getElem?_eq_none_iff.1 hx; omega),List.append_nil]
   | some x=>rw [tN s lf l i x hx,if_pos (h i x hx),Bi s lf l h i,bM l i x hx]
theorem Yp (s:bH)(lf:Bool)(l:List (bK κ))(h:∀ i x,l[i]? = some x→rH s lf l i x=true):dH s lf l=l:=by
 rw [dH,Bi s lf l h,List.take_length]
theorem Jy (s:bH)(l:List (bK κ)):dH s true l=l.filter (fun x=>qN s x.1):=by
 have h:∀ i,kD s true l i=(l.take i).filter (fun x=>qN s x.1):=by
  intro i;induction i with
  | zero=>rfl
  | succ i ih =>
    cases hx:l[i]? with
    | none =>
      show _++(match l[i]? with | some x=>if rH s true l i x=true then [x] else [] | none=>[])=_;rw [hx,ih,List.take_of_length_le (by have:=List.getElem?_eq_none_iff.1 hx; omega),List.take_of_length_le (by have:=List.getElem?_eq_none_iff.1 hx; omega),List.append_nil]
    | some x =>
      rw [tN s true l i x hx,ih,bM l i x hx,List.filter_append];congr 1;by_cases hk:qN s x.1=true <;> simp [rH,hk]
 rw [dH,h,List.take_length]
end
theorem DZ {f t k:ByteArray}:qN (f,t) k=true↔LV f t k:=by
 unfold qN LV;simp
theorem abE (k:ByteArray):qN (aY,aY) k=true:=DZ.2 ⟨oh _,.inl rfl⟩
theorem IE {κ:Type}{l:List (bK κ)}{f t:ByteArray}(h:gQ l f t):dH (f,t) true l=l:=by
 rw [Jy,List.filter_eq_self];exact fun x hx=>DZ.2 (h.span x hx)
def oQ {κ:Type}(f:ByteArray)(L:List (bK κ))(i:Nat):ByteArray:=if i=0 then f else (L[i]?.map (·.1)).getD aY
def uB {κ:Type}(t:ByteArray)(L:List (bK κ))(i:Nat):ByteArray:=(L[i+1]?.map (·.1)).getD t
section
variable {κ:Type} {W:κ→ByteArray→ByteArray→Prop}
theorem wQ:∀ (L:List (bK κ)) (f t:ByteArray) (i:Nat) (x:bK κ),aP W L f t→L[i]? = some x→W x.2.2 (oQ f L i) (uB t L i)
 | [],_,_,_,_,h,_=>h.elim
 | [x],f,t,i,z,h,hi=>by
   match i,hi with
   | 0,hi=>obtain rfl:x=z:=by simpa using hi
           exact h
   | i+1,hi=>simp at hi
 | x::y::r,f,t,i,z,h,hi=>by
   match i,hi with
   | 0,hi=>obtain rfl:x=z:=by simpa using hi
           exact h.1
   | i+1,hi =>
     have q:=wQ (y::r) y.1 t i z h.2.2 (by simpa using hi);have e:oQ y.1 (y::r) i=oQ f (x::y::r) (i+1):=by
      unfold oQ;by_cases h0:i=0
      ·subst h0; simp
      simp [h0]
     rw [e] at q;exact q
theorem abG {L:List (bK κ)}{f t:ByteArray}(h:aP W L f t)(hd:∀ x r,L=x::r→x.1=aY)(i:Nat)(hi:i<L.length):oC (f,t) L i=(oQ f L i,uB t L i):=by
 match L,h,hi with
 | x::r,h,hi =>
   obtain ⟨h1,_⟩:=iT r x f t h;have e0:=hd x r rfl;have ht:∀ i,(match ((x::r)[i+1]?.map (·.1)) with | none=>t | some n=>if t=aY∨lo n t=true then n else t)=uB t (x::r) i:=by
    intro i;unfold uB;cases hy:(x::r)[i+1]? with
    | none=>rfl
    | some y =>
      have hm:y ∈ r:=List.mem_of_getElem? (show r[i]? = some y by simpa using hy);show (if t=aY∨lo y.1 t=true then y.1 else t)=y.1;rw [if_pos (h1 y hm).2.1]
   unfold oC ofS;refine Prod.ext ?_ (ht i);unfold oQ;match i with
   | 0=>simp [e0,oh]
   | i+1 =>
     have hi':i<r.length:=by simpa using hi
     simp only [List.getElem?_cons_succ,List.getElem?_eq_getElem hi',Option.map_some,Option.getD_some];rw [if_pos (h1 _ (List.getElem_mem hi')).1,if_neg (by omega)]
theorem abH {L:List (bK κ)}{f t:ByteArray}(h:aP W L f t)(hne:t=aY∨lo f t=true)(i:Nat)(hi:i<L.length):uB t L i=aY∨lo (oQ f L i) (uB t L i)=true:=by
 match L,h,hi with
 | x::r,h,hi =>
   obtain ⟨h1,h2⟩:=iT r x f t h;unfold oQ uB;match i with
   | 0 =>
     rw [if_pos rfl];cases hy:(x::r)[0+1]? with
     | none=>exact hne
     | some y=>exact .inr (h1 y (List.mem_of_getElem? (show r[0]? = some y by simpa using hy))).1
   | i+1 =>
     rw [if_neg (by omega)];have hi':i<r.length:=by simpa using hi
     simp only [List.getElem?_cons_succ,List.getElem?_eq_getElem hi',Option.map_some,Option.getD_some];cases hy:r[i+1]? with
     | none=>exact (h1 _ (List.getElem_mem hi')).2.1
     | some y =>
       obtain ⟨hj,rfl⟩:=List.getElem?_eq_some_iff.1 hy;exact .inr (List.pairwise_iff_getElem.1 h2 i (i+1) hi' hj (by omega))
theorem Dy {L:List (bK κ)}{f t:ByteArray}(h:aP W L f t)(hd:∀ x r,L=x::r→x.1=aY)(hne:t=aY∨lo f t=true):dH (f,t) false L=L:=by
 refine Yp _ _ _ (fun i x hx=>?_);have hi:=(List.getElem?_eq_some_iff.1 hx).1;show (!emptyS (oC (f,t) L i))=true;rw [abG h hd i hi];unfold emptyS;rcases abH h hne i hi with e | e
 ·simp [e]
 simp [e]
theorem FK {a b S:List (bK κ)}{x:bK κ}{f t:ByteArray}(h:aP W (a++x::b) f t)(hS:S ≠ [])(hd:∀ y r,S=y::r→y.1=x.1)(hb:aP W S (oQ f (a++x::b) a.length) (uB t (a++x::b) a.length)):aP W (a++(S++b)) f t:=by
 have e1:uB t (a++x::b) a.length=(b.head?.map (·.1)).getD t:=by
  unfold uB;rw [List.getElem?_append_right (by omega),show a.length+1 - a.length=1 by omega];cases b <;> simp
 rw [e1] at hb;match S,hS with
 | s::S,_ =>
   have e0:=hd s S rfl;match a,b,h,hb with
   | [], [],h,hb=>simpa [oQ] using hb
   | [],y::r,h,hb =>
     have h':W x.2.2 f y.1∧Sep f t y.1∧aP W (y::r) y.1 t:=h;exact (eY S y r s f t).2 ⟨by simpa [oQ] using hb,h'.2⟩
   | a0::a, [],h,hb =>
     have h':=(eY a x [] a0 f t).1 h;have e2:oQ f (a0::a++[x]) (a0::a).length=x.1:=by unfold oQ; rw [if_neg (by simp),List.getElem?_append_right (by omega)]; simp
     rw [e2] at hb;refine (eY a s (S++[]) a0 f t).2 ?_;rw [e0,List.append_nil];exact ⟨h'.1,h'.2.1,by simpa using hb⟩
   | a0::a,y::r,h,hb =>
     have h':=(eY a x (y::r) a0 f t).1 h;have e2:oQ f (a0::a++x::y::r) (a0::a).length=x.1:=by unfold oQ; rw [if_neg (by simp),List.getElem?_append_right (by omega)]; simp
     rw [e2] at hb;refine (eY a s (S++y::r) a0 f t).2 ?_;rw [e0];have h3:W x.2.2 x.1 y.1∧Sep x.1 t y.1∧aP W (y::r) y.1 t:=h'.2.2;exact ⟨h'.1,h'.2.1,(eY S y r s x.1 t).2 ⟨by simpa using hb,h3.2⟩⟩
theorem FM (hW:∀ T f t f' t',Bh f t f' t'→W T f t→W T f' t'){a b:List (bK κ)}{x:bK κ}{f t:ByteArray}(h:aP W (a++x::b) f t)(hne:a++b ≠ []):aP W (a++b) f t:=by
 match a,b,hne with
 | [],y::r,_ =>
   have h':W x.2.2 f y.1∧Sep f t y.1∧aP W (y::r) y.1 t:=h;exact nN hW (y::r) _ _ _ _ (zB h'.2.1) h'.2.2
 | a0::a, [],_ =>
   have h':=(eY a x [] a0 f t).1 h;rw [List.append_nil];exact nN hW (a0::a) _ _ _ _ (wO h'.2.1) h'.1
 | a0::a,y::r,_ =>
   have h':=(eY a x (y::r) a0 f t).1 h;have h3:W x.2.2 x.1 y.1∧Sep x.1 t y.1∧aP W (y::r) y.1 t:=h'.2.2;refine (eY a y r a0 f t).2 ⟨nN hW (a0::a) _ _ _ _ (FC (.inr ⟨h'.2.1.ne,jd h3.2.1.1⟩)) h'.1,⟨iJ h'.2.1.1 h3.2.1.1,h3.2.1.2⟩,h3.2.2⟩
end
def gV (s:bH)(K:List bH):List bH:=K.filter (fun kv=>qN s kv.1)
theorem abI (s:bH)(a b:List bH):gV s (a++b)=gV s a++gV s b:=List.filter_append ..
theorem rO (K:List bH):gV (aY,aY) K=K:=List.filter_eq_self.2 (fun x _=>abE _)
structure mG (d:Nat)(L:Its (d+1)):Prop where
 low:∀ x ∈ L,∀ kv ∈ cont d (its x.2.2),lo kv.1 x.1=false
 high:L.Pairwise (fun x y=>∀ kv ∈ cont d (its x.2.2),lo kv.1 y.1=true)
theorem mG.sub {d:Nat}{L K:Its (d+1)}(h:mG d L)(s:K.Sublist L):mG d K:=⟨fun x hx=>h.low x (s.mem hx),h.high.sublist s⟩
theorem Jz (d:Nat):∀ (L:Its (d+1)) (f t:ByteArray),lX (d+1) L f t→(∀ x r,L=x::r→lo f x.1=false)→mG d L
 | [],f,t,h,hd=>⟨nofun,List.Pairwise.nil⟩
 | [x],f,t,h,hd=>by
   obtain ⟨h1,_⟩:=wP d _ _ _ h.1;refine ⟨fun z hz kv hk=>?_,List.pairwise_singleton _ _⟩;rw [List.mem_singleton.1 hz] at hk ⊢;exact jP (hd x [] rfl) (h1 kv hk).span.1
 | x::y::r,f,t,h,hd=>by
   obtain ⟨h1,h2,h3⟩:=h;obtain ⟨k1,_⟩:=wP d _ _ _ h1.1;have ih:=Jz d (y::r) y.1 t h3 (fun a b e=>by injection e with e _; rw [e,dP]);obtain ⟨s1,_⟩:=iT r y y.1 t h3;have hy:∀ kv ∈ cont d (its x.2.2),lo kv.1 y.1=true:=fun kv hk=>(k1 kv hk).span.2.elim (fun e=>absurd e h2.ne) id;refine ⟨fun z hz kv hk=>?_,List.pairwise_cons.2 ⟨fun z hz kv hk=>?_,ih.high⟩⟩
   ·rcases List.mem_cons.1 hz with rfl | hz
    ·exact jP (hd _ _ rfl) (k1 kv hk).span.1
    exact ih.low z hz kv hk
   rcases List.mem_cons.1 hz with rfl | hz
   ·exact hy kv hk
   exact iJ (hy kv hk) (s1 z hz).1
theorem ae9 (s:bH)(k k0:ByteArray)(nk:Option ByteArray)(h1:lo k k0=false)(h2:∀ n,nk=some n→lo k n=true):qN (ofS s k0 nk) k=qN s k:=by
 have e1:lo k (ofS s k0 nk).1=lo k s.1:=by
  show lo k (if lo s.1 k0=true then k0 else s.1)=_;split
  ·rename_i h
   rw [h1];cases e:lo k s.1 with
   | false=>rfl
   | true=>rw [iJ e h] at h1; cases h1
  rfl
 have e2:(decide ((ofS s k0 nk).2=aY) || lo k (ofS s k0 nk).2)=(decide (s.2=aY) || lo k s.2):=by
  cases nk with
  | none=>rfl
  | some n =>
    have hn:=h2 n rfl;show (decide ((if s.2=aY∨lo n s.2=true then n else s.2)=aY) || lo k (if s.2=aY∨lo n s.2=true then n else s.2))=_;split
    ·rename_i h
     rw [hn,Bool.or_true];rcases h with h | h
     ·rw [h]; simp
     rw [iJ hn h,Bool.or_true]
    rfl
 unfold qN;rw [e1,e2]
theorem OU (d:Nat)(s:bH){K:Its (d+1)}(h:mG d K)(i:Nat)(x:bK (Kd (d+1)))(hi:K[i]? = some x):gV (oC s K i) (cont d (its x.2.2))=gV s (cont d (its x.2.2)):=by
 unfold gV;refine List.filter_congr (fun kv hk=>?_);unfold oC;rw [hi];refine ae9 s kv.1 x.1 _ (h.low x (List.mem_of_getElem? hi) kv hk) (fun n hn=>?_);obtain ⟨y,hy,rfl⟩:=Option.map_eq_some_iff.1 hn;obtain ⟨h1,rfl⟩:=List.getElem?_eq_some_iff.1 hi;obtain ⟨h2,rfl⟩:=List.getElem?_eq_some_iff.1 hy;exact List.pairwise_iff_getElem.1 h.high i (i+1) h1 h2 (by omega) kv hk
theorem LY (d:Nat)(s:bH){K:Its (d+1)}(h:mG d K)(i:Nat)(x:bK (Kd (d+1)))(hi:K[i]? = some x)(he:emptyS (oC s K i)=true):gV s (cont d (its x.2.2))=[]:=by
 rw [← OU d s h i x hi];refine List.filter_eq_nil_iff.2 (fun kv hk=>?_);unfold emptyS at he;unfold qN;simp only [Bool.and_eq_true,Bool.not_eq_true',decide_eq_false_iff_not] at he;intro e;simp only [Bool.and_eq_true,Bool.not_eq_true',Bool.or_eq_true,decide_eq_true_eq] at e;rcases e.2 with e2 | e2
 ·exact he.1 e2
 rw [le_lo e.1 e2] at he; exact absurd he.2 (by simp)
theorem Yq (d:Nat)(s:bH){L:Its (d+1)}(h:mG d L):(dH s false L).flatMap (fun x=>gV s (cont d (its x.2.2)))=gV s (cont (d+1) L):=by
 have hn:∀ i,(kD s false L i).flatMap (fun x=>gV s (cont d (its x.2.2)))=(L.take i).flatMap (fun x=>gV s (cont d (its x.2.2))):=by
  intro i;induction i with
  | zero=>rfl
  | succ i ih =>
    cases hx:L[i]? with
    | none =>
      rw [TT s false L i hx,ih,List.take_of_length_le (by have:=List.getElem?_eq_none_iff.1 hx; omega),List.take_of_length_le (by have:=List.getElem?_eq_none_iff.1 hx; omega)]
    | some x =>
      rw [tN s false L i x hx,bM L i x hx,List.flatMap_append,List.flatMap_append,ih];congr 1;split
      ·rfl
      rename_i hk
      have he:emptyS (oC s L i)=true:=by simpa [rH] using hk
      simp [LY d s h i x hx he]
 rw [dH,hn,List.take_length];show _=List.filter _ (L.flatMap _);rw [List.filter_flatMap];rfl
def jE (d:Nat)(s:bH)(K:Its (d+1)):Nat→List bH
 | 0=>[]
 | i+1=>jE d s K i++(match K[i]? with
   | some x=>gV (oC s K i) (cont d (its x.2.2))
   | none=>[])
theorem FN (d:Nat)(s:bH)(K:Its (d+1))(i:Nat)(x:bK (Kd (d+1)))(h:K[i]? = some x):jE d s K (i+1)=jE d s K i++gV (oC s K i) (cont d (its x.2.2)):=by
 show _++(match K[i]? with | some x=>gV (oC s K i) (cont d (its x.2.2)) | none=>[])=_;rw [h]
theorem TU (d:Nat)(s:bH){L:Its (d+1)}(h:mG d L):jE d s (dH s false L) (dH s false L).length=gV s (cont (d+1) L):=by
 rw [← Yq d s h];have hk:=h.sub ((rJ s false L L.length).trans (List.take_sublist _ _));change mG d (dH s false L) at hk;revert hk
 generalize dH s false L=K;intro hk;have hn:∀ i,jE d s K i=(K.take i).flatMap (fun x=>gV s (cont d (its x.2.2))):=by
  intro i;induction i with
  | zero=>rfl
  | succ i ih =>
    cases hx:K[i]? with
    | none =>
      show jE d s K i++(match K[i]? with | some x=>_ | none=>[])=_;rw [hx,List.append_nil,ih,List.take_of_length_le (by have:=List.getElem?_eq_none_iff.1 hx; omega),List.take_of_length_le (by have:=List.getElem?_eq_none_iff.1 hx; omega)]
    | some x=>rw [FN d s K i x hx,ih,bM K i x hx,List.flatMap_append,OU d s hk i x hx]; simp
 rw [hn,List.take_length]
theorem Yr (s:bH)(L:Its 0):cont 0 (dH s true L)=gV s (cont 0 L):=by
 rw [Jy];unfold gV cont;rw [List.filter_map];rfl
def OV {d:Nat}(x:bK (Kd (d+1))):bK ((ay×Pt d) ⊕ Its d):=(x.1,x.2.1,kX x.2.2)
def bP:(d:Nat)→Its d→Its d→Prop
 | 0,L,L'=>L=L'
 | d+1,L,L'=>List.map OV (show Its (d+1) from L)=List.map OV (show Its (d+1) from L')
theorem bP.refl:∀ (d:Nat) (L:Its d),bP d L L
 | 0,L=>rfl
 | d+1,L=>rfl
theorem bP.symm:∀ {d:Nat} {L K:Its d},bP d L K→bP d K L
 | 0,L,K,h=>Eq.symm h
 | d+1,L,K,h=>Eq.symm h
section
variable {d:Nat} {L K:Its d}
theorem mJ {d:Nat}{L K:Its (d+1)}:bP (d+1) L K↔L.map OV=K.map OV:=Iff.rfl
theorem OW {β:Type}(g:ByteArray→ByteArray→β):∀ {d:Nat} {L K:Its d},bP d L K→L.map (fun x=>g x.1 x.2.1)=K.map (fun x=>g x.1 x.2.1)
 | 0,L,K,h=>by rw [show L=K from h]
 | d+1,L,K,h=>by
   have:=congrArg (List.map (fun z=>g z.1 z.2.1)) (mJ.1 h);rw [List.map_map,List.map_map] at this;exact this
theorem iM (h:bP d L K):L.length=K.length:=by
 have:=congrArg List.length (OW (fun a b=>(a,b)) h);simpa using this
theorem VY {κ κ':Type}(lf:Bool){l:List (bK κ)}{l':List (bK κ')}(h:l.map (fun x=>(x.1,x.2.1))=l'.map (fun x=>(x.1,x.2.1))):jr lf l=jr lf l':=by
 match l,l',h with
 | [], [],_=>rfl
 | x::r, [],h=>simp at h
 | [],x::r,h=>simp at h
 | x::r,x'::r',h =>
   simp only [List.map_cons,List.cons.injEq,Prod.mk.injEq] at h;obtain ⟨⟨h1,h2⟩,h3⟩:=h;have e:fQ lf r=fQ lf r':=by
    have:=congrArg (List.map (fun z:ByteArray×ByteArray=>if lf then 1+z.1.size+1+z.2.size else 1+z.1.size+44)) h3;rw [List.map_map,List.map_map] at this;exact congrArg List.sum this
   show 2+(if lf then nM lf x else 44)+fQ lf r=2+(if lf then nM lf x' else 44)+fQ lf r';rw [e];unfold nM;rw [h1,h2]
theorem VZ {κ κ':Type}(d:Nat){l:List (bK κ)}{l':List (bK κ')}(h:l.map (fun x=>(x.1,x.2.1))=l'.map (fun x=>(x.1,x.2.1)))(o:qZ d l):qZ d l':=by
 refine ⟨fun e=>?_, ?_,fun hd x r e=>?_,fun hd x hx=>?_⟩
 ·subst e; exact o.some (by simpa using h)
 ·rw [← VY _ h]; exact o.size
 ·subst e
  match l,h with
  | y::q,h =>
    simp only [List.map_cons,List.cons.injEq,Prod.mk.injEq] at h;rw [← h.1.1]; exact o.head hd y q rfl
 have:(x.1,x.2.1) ∈ l.map (fun x=>(x.1,x.2.1)):=by rw [h]; exact List.mem_map_of_mem hx
 obtain ⟨y,hy,e⟩:=List.mem_map.1 this;injection e with e1 e2;rw [← e2]; exact o.vals hd y hy
theorem FO (h:bP d L K):L.map (fun x=>(x.1,x.2.1))=K.map (fun x=>(x.1,x.2.1)):=OW (fun a b=>(a,b)) h
theorem zC (h:bP d L K)(lf:Bool):jr lf L=jr lf K:=VY lf (FO h)
theorem rP (h:bP d L K)(o:qZ d L):qZ d K:=VZ d (FO h) o
end
theorem oU:∀ {d:Nat} {L K:Its d},bP d L K→cont d L=cont d K
 | 0,L,K,h=>by rw [show L=K from h]
 | d+1,L,K,h=>by
   have:=congrArg (List.flatMap (fun z=>cont d (OO z.2.2))) (mJ.1 h);rw [List.flatMap_map,List.flatMap_map] at this;exact this
theorem kQ:∀ {d:Nat} {L K:Its d},bP d L K→bf d L=bf d K
 | 0,L,K,h=>by rw [show L=K from h]
 | d+1,L,K,h=>by
   have:=congrArg (fun l=>(List.map (fun z:bK ((ay×Pt d) ⊕ Its d)=>jl (d+1) (mkK 0 z.2.2)) l).sum) (mJ.1 h);simp only [List.map_map] at this;exact this
theorem FP {κ κ':Type}(g:κ→κ')(W:κ'→ByteArray→ByteArray→Prop):∀ (l:List (bK κ)) (f t:ByteArray),aP W (l.map (fun x=>(x.1,x.2.1,g x.2.2))) f t↔aP (fun T=>W (g T)) l f t
 | [],f,t=>Iff.rfl
 | [x],f,t=>Iff.rfl
 | x::y::r,f,t=>and_congr Iff.rfl (and_congr Iff.rfl (FP g W (y::r) y.1 t))
theorem wR:∀ {d:Nat} {L K:Its d} {f t:ByteArray},bP d L K→lX d L f t→lX d K f t
 | 0,L,K,f,t,h,w=>by rw [← show L=K from h]; exact w
 | d+1,L,K,f,t,h,w=>by
   have e:∀ M:Its (d+1),lX (d+1) M f t↔aP (fun z f t=>lX d (OO z) f t∧qZ d (OO z)∧(d ≠ 0→2≤(OO z).length)) (M.map OV) f t:=fun M=>(FP kX (fun z f t=>lX d (OO z) f t∧qZ d (OO z)∧(d ≠ 0→2≤(OO z).length)) M f t).symm;rw [e] at w ⊢;rw [← mJ.1 h];exact w
def hd0 (d:Nat)(L:Its d):Its d:=if d=0 then L else match L with
 | []=>[]
 | x::r=>(aY,x.2)::r
theorem abJ (L:Its 0):hd0 0 L=L:=rfl
theorem abK (d:Nat)(x:bK (Kd (d+1)))(r:Its (d+1)):hd0 (d+1) (x::r)=(aY,x.2)::r:=rfl
theorem gU (d:Nat)(L:Its d):(hd0 d L).length=L.length:=by
 match d,L with
 | 0,L=>rfl
 | d+1, []=>rfl
 | d+1,x::r=>rfl
theorem aiu {d:Nat}{L:Its d}(h:L ≠ []):hd0 d L ≠ []:=fun e=>h (List.length_eq_zero_iff.1 (by rw [← gU,e]; rfl))
theorem zD (d:Nat)(L:Its d):cont d (hd0 d L)=cont d L:=by
 match d,L with
 | 0,L=>rfl
 | d+1, []=>rfl
 | d+1,x::r=>rfl
theorem rQ (d:Nat)(L:Its d):bf d (hd0 d L)=bf d L:=by
 match d,L with
 | 0,L=>rfl
 | d+1, []=>rfl
 | d+1,x::r=>rfl
theorem afa (d:Nat)(L:Its d):jr (d == 0) (hd0 d L)=jr (d == 0) L:=by
 match d,L with
 | 0,L=>rfl
 | d+1, []=>rfl
 | d+1,x::r=>rfl
theorem LZ {d:Nat}{L:Its d}{f t:ByteArray}(h:lX d L f t):lX d (hd0 d L) f t:=by
 match d,L with
 | 0,L=>exact h
 | d+1, []=>exact h
 | d+1,x::r=>exact (Cj x (aY,x.2) r f t rfl).2 h
theorem L6 {d:Nat}{L:Its d}(h1:L ≠ [])(h2:jr (d == 0) L≤512)(h3:d ≠ 0→∀ x ∈ L,x.2.1=aY):qZ d (hd0 d L):=by
 refine ⟨aiu h1,by rw [afa]; exact h2,fun hd x r e=>?_,fun hd x hx=>?_⟩
 ·match d,L,hd,h1 with
  | d+1,y::q,_,_=>injection e with e _; rw [← e]
 match d,L,hd,h1 with
 | d+1,y::q,_,_ =>
   rcases List.mem_cons.1 hx with rfl | hx
   ·exact h3 (by omega) y (by simp)
   exact h3 (by omega) x (by simp [hx])
def JA {κ:Type}(lf:Bool)(l:List (bK κ))(i:Nat):Prop:=i≤l.length∧fQ lf (l.drop i)≤fQ lf (l.take i)∧∀ j,j<i→fQ lf (l.take j)<fQ lf (l.drop j)
inductive iy (d:Nat) (fr:ByteArray) (L:Its d):Its (d+1)→Prop
 | none:L=[]→iy d fr L []
 | one (a:Nat):L ≠ []→jr (d == 0) L≤512→iy d fr L [(fr,aY,mkK a (.inr (hd0 d L)))]
 | two (i:Nat) (x:bK (Kd d)) (a b:Nat):512<jr (d == 0) L→JA (d == 0) L i→L[i]? = some x→iy d fr L [(fr,aY,mkK a (.inr (hd0 d (L.take i)))),(x.1,aY,mkK b (.inr (hd0 d (L.drop i))))]
inductive tV (d:Nat) (fr f t:ByteArray):Its (d+1)→Prop
 | one (x:bK (Kd (d+1))):x.1=fr→x.2.1=aY→TP d x.2.2 f t→tV d fr f t [x]
 | two (x y:bK (Kd (d+1))):x.1=fr→x.2.1=aY→y.2.1=aY→l7 d x.2.2 f y.1→Sep f t y.1→l7 d y.2.2 y.1 t→tV d fr f t [x,y]
theorem afb {d:Nat}{L:Its d}{f t:ByteArray}(h:lX d L f t)(i:Nat)(h0:0<i)(x:bK (Kd d))(hx:L[i]? = some x):lX d (L.take i) f x.1∧Sep f t x.1∧lX d (L.drop i) x.1 t:=by
 obtain ⟨hi,rfl⟩:=List.getElem?_eq_some_iff.1 hx;match d,L,h,hi with
 | 0,L,h,hi =>
   have hp:=List.pairwise_iff_getElem.1 h.rise;have e0:lo (L[0]'(by omega)).1 L[i].1=true:=hp 0 i (by omega) hi h0;have m0:=h.span _ (List.getElem_mem (show 0<L.length by omega));have mi:=h.span _ (List.getElem_mem hi);refine ⟨⟨h.rise.sublist (List.take_sublist _ _),fun y hy=>?_,fun y hy=>h.key y (List.mem_of_mem_take hy),fun y hy=>h.val y (List.mem_of_mem_take hy)⟩,⟨le_lo m0.1 e0,mi.2,(h.key _ (List.getElem_mem hi)).2⟩,⟨h.rise.sublist (List.drop_sublist _ _),fun y hy=>?_,fun y hy=>h.key y (List.mem_of_mem_drop hy),fun y hy=>h.val y (List.mem_of_mem_drop hy)⟩⟩
   ·obtain ⟨j,hj,rfl⟩:=List.getElem_of_mem hy
    rw [List.length_take] at hj;rw [List.getElem_take];exact ⟨(h.span _ (List.getElem_mem (by omega))).1,.inr (hp j i (by omega) hi (by omega))⟩
   obtain ⟨j,hj,rfl⟩:=List.getElem_of_mem hy;rw [List.length_drop] at hj;rw [List.getElem_drop];refine ⟨?_,(h.span _ (List.getElem_mem (by omega))).2⟩;by_cases hj0:j=0
   ·subst hj0; exact dP _
   exact jd (hp i (i+j) hi (by omega) (by omega))
 | d+1,L,h,hi =>
   have e:L=L.take i++L[i]::L.drop (i+1):=by rw [← List.drop_eq_getElem_cons hi,List.take_append_drop]
   have hd:L.drop i=L[i]::L.drop (i+1):=List.drop_eq_getElem_cons hi;rw [hd];have hne:L.take i ≠ []:=fun e=>by have:=congrArg List.length e; rw [List.length_take,List.length_nil] at this; omega
   rw [FB] at h ⊢;match ht:L.take i,hne with
   | y::r,_ =>
     rw [ht] at e;have h':aP (l7 d) (y::r++L[i]::L.drop (i+1)) f t:=by rw [← e]; exact h
     exact (eY r _ _ y f t).1 h'
theorem FQ {κ:Type}(lf:Bool)(m:Nat):∀ l:List (bK κ),(∀ x ∈ l,nM lf x≤m)→fQ lf l≤l.length * m
 | [],_=>Nat.zero_le _
 | x::l,h=>by
   have:=FQ lf m l (fun y hy=>h y (by simp [hy]));have:=h x (by simp);rw [gG,List.length_cons,Nat.add_mul];omega
theorem JB {κ:Type}(lf:Bool)(m:Nat){l:List (bK κ)}{i:Nat}(h:JA lf l i)(hm:∀ x ∈ l,nM lf x≤m)(h0:0<fQ lf l) :
 0<i∧2 * fQ lf (l.drop i)≤fQ lf l∧2 * fQ lf (l.take i)≤fQ lf l+2 * m∧fQ lf l≤2 * fQ lf (l.take i)∧fQ lf l≤2 * fQ lf (l.drop i)+2 * m:=by
 obtain ⟨h1,h2,h3⟩:=h
 have e:∀ j,fQ lf (l.take j)+fQ lf (l.drop j)=fQ lf l:=fun j=>by rw [← iZ,List.take_append_drop]
 have hi0:0<i:=by
  rcases Nat.eq_zero_or_pos i with h4 | h4
  ·subst h4
   have:=e 0;simp only [List.take_zero,List.drop_zero] at h2;rw [show fQ lf ([]:List (bK κ))=0 from rfl] at h2;omega
  exact h4
 obtain ⟨j,rfl⟩:∃ j,i=j+1:=⟨i - 1,by omega⟩
 have h4:=h3 j (by omega)
 have hx:l[j]? = some (l[j]'(by omega)):=List.getElem?_eq_getElem (by omega)
 have e1:fQ lf (l.take (j+1))=fQ lf (l.take j)+nM lf (l[j]'(by omega)):=by rw [bM l j _ hx,iZ]; simp [fQ]
 have e2:=hm _ (List.getElem_mem (show j<l.length by omega))
 have e3:=e j
 have e4:=e (j+1)
 refine ⟨by omega,by omega,by omega,by omega,by omega⟩
theorem aiv {d:Nat}{L:Its d}{f t:ByteArray}(hw:lX d L f t)(hk:d ≠ 0→∀ x ∈ L,x.1.size≤32∧x.2.1=aY):(d=0→∀ x ∈ L,nM (d == 0) x≤130)∧(d ≠ 0→∀ x ∈ L,nM (d == 0) x≤77):=by
 refine ⟨fun h x hx=>?_,fun h x hx=>?_⟩
 ·subst h
  have h1:=(hw.key x hx).2;have h2:=hw.val x hx;simp only [nM,beq_self_eq_true,if_true];omega
 have:=(hk h x hx).1;rw [show (d == 0)=false by simpa using h];simp only [nM,Bool.false_eq_true,if_false];omega
theorem Bj {d:Nat}{fr:ByteArray}{L:Its d}{S:Its (d+1)}{f t:ByteArray}(h:iy d fr L S)(hw:L ≠ []→lX d L f t)(hz:jr (d == 0) L≤690)(hk:d ≠ 0→∀ x ∈ L,x.1.size≤32∧x.2.1=aY) :
 (L=[]↔S=[])∧(L ≠ []→tV d fr f t S)∧cont (d+1) S=cont d L∧bf (d+1) S≤bf d L+2∧((d ≠ 0→2≤L.length)→∀ x,S=[x]→l7 d x.2.2 f t):=by
 cases h with
 | none h=>subst h; exact ⟨by simp,fun h=>absurd rfl h,by rw [zA,zA],by simp [bf],fun _ x e=>by simp at e⟩
 | one a hne amI =>
   have hwk:TP d (mkK a (.inr (hd0 d L))) f t:=⟨LZ (hw hne),L6 hne amI (fun h x hx=>(hk h x hx).2)⟩
   refine ⟨by simp [hne],fun _ => .one _ rfl rfl hwk, ?_, ?_,fun h2 x e=>?_⟩
   ·rw [fP]; exact zD d L
   ·show (1+bf d (hd0 d L))+0≤_; rw [rQ]; omega
   injection e with e _;subst e;exact ⟨hwk.1,hwk.2,fun hd=>by show 2≤(hd0 d L).length; rw [gU]; exact h2 hd⟩
 | two i x a b amI hmid hx =>
   have hi:=(List.getElem?_eq_some_iff.1 hx).1;have hne:L ≠ []:=fun e=>by subst e; simp at hi
   obtain ⟨z0,z1⟩:=aiv (hw hne) hk;have hT1:=Bg (d == 0) L;have hT2:fQ (d == 0) L≤jr (d == 0) L+32:=by
    match L,hne with
    | y::r,_ =>
      have:=abD (d == 0) y r;by_cases hd:d=0
      ·subst hd
       have:=((hw (by simp)).key y (by simp)).2;omega
      have:=(hk hd y (by simp)).1;omega
   have hm:∃ m,m≤130∧(d ≠ 0→m=77)∧∀ x ∈ L,nM (d == 0) x≤m:=by
    by_cases hd:d=0
    ·exact ⟨130,by omega,fun h=>absurd hd h,z0 hd⟩
    exact ⟨77,by omega,fun _=>rfl,z1 hd⟩
   obtain ⟨m,m1,m2,m3⟩:=hm;obtain ⟨i0,s1,s2,s3,s4⟩:=JB (d == 0) m hmid m3 (by omega);obtain ⟨w1,w2,w3⟩:=afb (hw hne) i i0 x hx;have hlen:∀ M:Its d,(∀ x ∈ M,x ∈ L)→177<fQ (d == 0) M∨(d=0∧0<fQ (d == 0) M)→M ≠ []∧(d ≠ 0→2≤M.length):=by
    intro M hM hs;have hsum:=FQ (d == 0) m M (fun y hy=>m3 y (hM y hy));refine ⟨fun e=>by subst e; rw [show fQ (d == 0) ([]:Its d)=0 from rfl] at hs; omega,fun hd=>?_⟩;rw [m2 hd] at hsum;rcases hs with hs | hs
    ·omega
    exact absurd hs.1 hd
   have hA:=hlen (L.take i) (fun y hy=>List.mem_of_mem_take hy) (.inl (by omega));have hB:=hlen (L.drop i) (fun y hy=>List.mem_of_mem_drop hy) (by
    by_cases hd:d=0
    ·exact .inr ⟨hd,by omega⟩
    ·have:=m2 hd; exact .inl (by omega))
   have kA:l7 d (mkK a (.inr (hd0 d (L.take i)))) f x.1:=⟨LZ w1,L6 hA.1 (by have:=Bg (d == 0) (L.take i); omega) (fun h y hy=>(hk h y (List.mem_of_mem_take hy)).2),fun hd=>by show 2≤(hd0 d _).length; rw [gU]; exact hA.2 hd⟩
   have kB:l7 d (mkK b (.inr (hd0 d (L.drop i)))) x.1 t:=⟨LZ w3,L6 hB.1 (by have:=Bg (d == 0) (L.drop i); omega) (fun h y hy=>(hk h y (List.mem_of_mem_drop hy)).2),fun hd=>by show 2≤(hd0 d _).length; rw [gU]; exact hB.2 hd⟩
   refine ⟨by simp [hne],fun _ => .two _ _ rfl rfl rfl kA w2 kB, ?_, ?_,fun _ y e=>by simp at e⟩
   ·rw [gZ,fP,fP]
    show cont d (hd0 d _)++cont d (hd0 d _)=_;rw [zD,zD,← dM,List.take_append_drop]
   show (1+bf d (hd0 d _))+((1+bf d (hd0 d _))+0)≤_;have:=fD d (L.take i) (L.drop i);rw [List.take_append_drop] at this;rw [rQ,rQ];omega
end Go.Proofs.YtljjcbmkbmloaaaGreatDoor
