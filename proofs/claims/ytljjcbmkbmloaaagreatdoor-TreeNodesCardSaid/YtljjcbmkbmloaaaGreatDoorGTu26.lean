import Derived.Test.YtljjcbmkbmloaaaGreatDoorGTu25
namespace Go.Proofs.YtljjcbmkbmloaaaGreatDoor
set_option maxRecDepth 4000
set_option linter.unusedVariables false
def UB {α β:Type}(R:α→β→Prop):List α→List β→Prop
 | [], []=>True
 | x::l,y::r=>R x y∧UB R l r
 | _,_=>False
theorem Gw {α β:Type}{R:α→β→Prop}:∀ {l:List α} {r:List β},UB R l r→l.length=r.length
 | [], [],_=>rfl
 | _::l,_::r,h=>by simp [Gw h.2]
theorem JK {α β:Type}{R:α→β→Prop}{x:α}{y:β}(hxy:R x y):∀ {l:List α} {r:List β},UB R l r→UB R (l++[x]) (r++[y])
 | [], [],_=>⟨hxy,trivial⟩
 | _::_,_::_,h=>⟨h.1,JK hxy h.2⟩
def Sv:(d:Nat)→Its d→Pt d→Prop
 | 0,L,X=>(show List bH from X)=L.map (fun x=>(x.1,x.2.1))
 | d+1,L,X=>UB (fun (x:bK (Kd (d+1))) (y:ByteArray×ay×Pt d)=>y.1=x.1∧Sv d (its x.2.2) y.2.2) L (show List (ByteArray×ay×Pt d) from X)
def sK {d:Nat}(a:Nat)(q:ay)(X:Pt d):Kd (d+1):=mkK a (.inl (q,X))
theorem yH {d:Nat}(a:Nat)(q:ay)(X:Pt d):its (sK a q X)=up d X:=rfl
theorem wZ (d:Nat)(X:Pt (d+1)):up (d+1) X=List.map (fun x=>(x.1,aY,sK 0 x.2.1 x.2.2)) (show List (ByteArray×ay×Pt d) from X):=rfl
theorem ahi:∀ (d:Nat) (X:Pt d),Sv d (up d X) X
 | 0,X=>by
   show (show List bH from X)=List.map _ (List.map _ _);rw [List.map_map];exact (List.map_id _).symm
 | d+1,X=>by
   unfold Sv;rw [wZ];generalize (show List (ByteArray×ay×Pt d) from X)=l;induction l with
   | nil=>trivial
   | cons y r ih=>exact ⟨⟨rfl,ahi d y.2.2⟩,ih⟩
theorem zQ:∀ {d:Nat} {L:Its d} {X:Pt d},Sv d L X→cont d (up d X)=cont d L
 | 0,L,X,h=>by
   have e:(show List bH from X)=L.map (fun x=>(x.1,x.2.1)):=h;show List.map _ (List.map _ (show List bH from X))=L.map _;rw [e,List.map_map,List.map_map];rfl
 | d+1,L,X,h=>by
   show List.flatMap _ (up (d+1) X)=List.flatMap _ L;rw [wZ];unfold Sv at h;revert h
   generalize (show List (ByteArray×ay×Pt d) from X)=l;induction L generalizing l with
   | nil=>cases l with
     | nil=>intro _; rfl
     | cons y r=>intro h; cases h
   | cons x L ih=>cases l with
     | nil=>intro h; cases h
     | cons y r =>
       intro h;rw [List.map_cons,List.flatMap_cons,List.flatMap_cons,ih r h.2];congr 1;exact zQ h.1.2
theorem acy:∀ {d:Nat} {L:Its d} {X:Pt d},Sv d L X→(up d X).length=L.length
 | 0,L,X,h=>by
   have e:(show List bH from X)=L.map (fun x=>(x.1,x.2.1)):=h;show (List.map _ (show List bH from X)).length=_;rw [e,List.length_map,List.length_map]
 | d+1,L,X,h=>by
   rw [wZ,List.length_map];exact (Gw h).symm
theorem acz:∀ {d:Nat} {L:Its d} {X:Pt d},Sv d L X→(d ≠ 0→∀ x ∈ L,x.2.1=aY)→L.map (fun x=>(x.1,x.2.1))=(up d X).map (fun x=>(x.1,x.2.1))
 | 0,L,X,h,_=>by
   have e:(show List bH from X)=L.map (fun x=>(x.1,x.2.1)):=h;show _=List.map _ (List.map _ (show List bH from X));rw [List.map_map,← e];exact (List.map_id _).symm
 | d+1,L,X,h,hv=>by
   have hv1:=hv (by omega);clear hv;rw [wZ];unfold Sv at h;revert h
   generalize (show List (ByteArray×ay×Pt d) from X)=l;induction L generalizing l with
   | nil=>cases l with
     | nil=>intro _; rfl
     | cons y r=>intro h; cases h
   | cons x L ih=>cases l with
     | nil=>intro h; cases h
     | cons y r =>
       intro h;rw [List.map_cons,List.map_cons,List.map_cons,← ih (fun z hz=>hv1 z (List.mem_cons_of_mem _ hz)) r h.2,hv1 x (List.mem_cons_self ..),h.1.1]
theorem acA {d:Nat}{L:Its d}{X:Pt d}(h:Sv d L X)(o:qZ d L):qZ d (up d X):=VZ d (acz h o.vals) o
theorem acB (L:Its 0):L.map (fun x=>(x.1,x.2.1,()))=L:=List.map_id _
theorem ahj:∀ {d:Nat} {L:Its d} {X:Pt d} {f t:ByteArray},Sv d L X→lX d L f t→lX d (up d X) f t
 | 0,L,X,f,t,h,hw=>by
   have e:(show List bH from X)=L.map (fun x=>(x.1,x.2.1)):=h;have e2:up 0 X=L:=by
    show List.map _ (show List bH from X)=L;rw [e,List.map_map];exact acB L
   rw [e2];exact hw
 | d+1,L,X,f,t,h,hw=>by
   rw [FB] at hw ⊢;rw [wZ];unfold Sv at h;revert h hw
   generalize (show List (ByteArray×ay×Pt d) from X)=l;have hk:∀ (x:bK (Kd (d+1))) (y:ByteArray×ay×Pt d) (f t:ByteArray),Sv d (its x.2.2) y.2.2→l7 d x.2.2 f t→l7 d (sK 0 y.2.1 y.2.2) f t:=fun x y f t hs hw =>
    ⟨by rw [yH]; exact ahj hs hw.1,by rw [yH]; exact acA hs hw.2.1,fun hd=>by rw [yH,acy hs]; exact hw.2.2 hd⟩
   induction L generalizing l f with
   | nil=>intro hw; cases hw
   | cons x L ih=>cases l with
     | nil=>intro _ h; cases h
     | cons y r =>
       intro hw h;match L,r,hw,h,ih with
       | [], [],hw,h,_=>exact hk x y f t h.1.2 hw
       | [],_::_,_,h,_=>cases h.2
       | _::_, [],_,h,_=>cases h.2
       | x2::L,y2::r,hw,h,ih =>
         have e:y2.1=x2.1:=h.2.1.1;obtain ⟨h1,h2,h3⟩:=hw;rw [← e] at h1 h2 h3;exact ⟨hk x y f y2.1 h.1.2 h1,h2,ih y2.1 (y2::r) h3 h.2⟩
theorem MP {d a:Nat}{q:ay}{T:Kd (d+1)}{X:Pt d}{f t:ByteArray}(h:Sv d (its T) X)(hw:l7 d T f t):l7 d (sK a q X) f t :=
 ⟨by rw [yH]; exact ahj h hw.1,by rw [yH]; exact acA h hw.2.1,fun hd=>by rw [yH,acy h]; exact hw.2.2 hd⟩
theorem uk:∀ (l:List ByteArray) (a:ByteArray),(∀ s ∈ l,lo a s=true∧s.size≤32)→l.Pairwise (fun x y=>lo x y=true)→dB a l=true
 | [],_,_,_=>rfl
 | k::r,a,h,hp=>by
   unfold dB;obtain ⟨h1,h2⟩:=h k (List.mem_cons_self ..);obtain ⟨h3,h4⟩:=List.pairwise_cons.1 hp;rw [h1,decide_eq_true h2,uk r k (fun s hs=>⟨h3 s hs,(h s (List.mem_cons_of_mem _ hs)).2⟩) h4];rfl
theorem afU {s:ByteArray}(h:1≤s.size):lo aY s=true:=abC (fun e=>by rw [e,abB] at h; omega)
theorem P8 {κ:Type}:∀ L:List (bK κ),og (L.map (·.1))+og (L.map (fun x=>x.2.1))=fQ true L
 | []=>rfl
 | x::r=>by
   have:=P8 r;rw [gG,List.map_cons,List.map_cons];simp only [og,nM,if_pos];omega
theorem Gx {κ:Type}:∀ L:List (bK κ),og (L.map (·.1))+44 * L.length=fQ false L
 | []=>rfl
 | x::r=>by
   have:=Gx r;rw [gG,List.map_cons,List.length_cons];simp only [og,nM];simp only [Bool.false_eq_true,if_false];omega
theorem acC {L:Its 0}{X:Pt 0}{f t:ByteArray}(h:Sv 0 L X)(hw:lX 0 L f t)(o:qZ 0 L):checkN (dZ 0 X)=0:=by
 have e:(show List bH from X)=L.map (fun x=>(x.1,x.2.1)):=h;have hl:gQ L f t:=hw;have hn:dZ 0 X=⟨true,L.map (·.1),L.map (fun x=>x.2.1), []⟩:=by
  show (⟨true,List.map (·.1) (show List bH from X),List.map (·.2) (show List bH from X), []⟩:az)=_;rw [e,List.map_map,List.map_map];rfl
 rw [hn];unfold checkN;have hf:jU ⟨true,L.map (·.1),L.map (fun x=>x.2.1), []⟩=true:=by
  unfold jU jO;have h1:dB ⟨#[]⟩ (L.map (·.1))=true:=uk _ aY (fun s hs=>by
   obtain ⟨x,hx,rfl⟩:=List.mem_map.1 hs;exact ⟨afU (hl.key x hx).1,(hl.key x hx).2⟩) (List.pairwise_map.2 hl.rise)
  have h2:(L.map (fun x=>x.2.1)).all lY=true:=List.all_eq_true.2 (fun s hs=>by
   obtain ⟨x,hx,rfl⟩:=List.mem_map.1 hs;exact decide_eq_true (hl.val x hx))
  simp [h1,h2]
 rw [if_pos hf,if_pos];have h1:=o.size;have h2:=P8 L;show 2+og (L.map (·.1))+og (L.map (fun x=>x.2.1))+44 * 0≤512;cases hL:L with
 | nil=>exact absurd hL o.some
 | cons x r =>
   rw [hL] at h1 h2;simp only [jr,beq_self_eq_true,if_true] at h1;rw [gG] at h2;omega
theorem yI {d:Nat}:∀ {L:Its (d+1)} {l:List (ByteArray×ay×Pt d)},UB (fun (x:bK (Kd (d+1))) (y:ByteArray×ay×Pt d)=>y.1=x.1∧Sv d (its x.2.2) y.2.2) L l→l.map (·.1)=L.map (·.1)
 | [], [],_=>rfl
 | x::L,y::l,h=>by rw [List.map_cons,List.map_cons,h.1.1,yI h.2]
theorem UC {d:Nat}{L:Its (d+1)}{X:Pt (d+1)}{f t:ByteArray}(h:Sv (d+1) L X)(hw:lX (d+1) L f t)(o:qZ (d+1) L)(h2:2≤L.length)(hk:∀ y ∈ (show List (ByteArray×ay×Pt d) from X),jq y.2.1=true):checkN (dZ (d+1) X)=0:=by
 unfold Sv at h;rw [FB] at hw;show checkN ⟨false,(List.map (·.1) (show List (ByteArray×ay×Pt d) from X)).tail, [],List.map (·.2.1) (show List (ByteArray×ay×Pt d) from X)⟩=0;revert h hk
 generalize (show List (ByteArray×ay×Pt d) from X)=l;intro hk h;have hlen:=Gw h;have hhd:=yI h;rw [hhd];match L,hw,o,h2,hlen with
 | x::r,hw,o,h2,hlen =>
   obtain ⟨h3,h4⟩:=iT r x f t hw;rw [List.map_cons,List.tail_cons];have hf:jU ⟨false,r.map (·.1), [],l.map (·.2.1)⟩=true:=by
    unfold jU jO;have q1:dB ⟨#[]⟩ (r.map (·.1))=true:=uk _ aY (fun s hs=>by
     obtain ⟨z,hz,rfl⟩:=List.mem_map.1 hs;exact ⟨abC (h3 z hz).ne,(h3 z hz).2.2⟩) (List.pairwise_map.2 h4)
    have q2:(l.map (·.2.1)).all jq=true:=List.all_eq_true.2 (fun s hs=>by
     obtain ⟨z,hz,rfl⟩:=List.mem_map.1 hs;exact hk z hz)
    rw [q1,q2];simp only [List.length_map,List.length_cons] at h2 hlen ⊢;simp;omega
   unfold checkN;rw [if_pos hf,if_pos];have h5:=o.size;have h6:=Gx r;show 2+og (r.map (·.1))+0+44 * (l.map (·.2.1)).length≤512;simp only [List.length_map,List.length_cons] at hlen ⊢;have e0:(d+1 == 0)=false:=rfl;rw [e0] at h5;simp only [jr,Bool.false_eq_true,if_false] at h5;omega
theorem P9 {κ:Type}(f g:κ→Nat):∀ l:List κ,(∀ x ∈ l,f x+1≤2 * g x)→(l.map f).sum+l.length≤2 * (l.map g).sum
 | [],_=>Nat.le_refl _
 | x::l,h=>by
   have h1:=h x (List.mem_cons_self ..);have h2:=P9 f g l (fun y hy=>h y (List.mem_cons_of_mem _ hy));simp only [List.map_cons,List.sum_cons,List.length_cons];omega
theorem Wq:∀ (d:Nat) (T:Kd (d+1)) (f t:ByteArray),l7 d T f t→jl (d+1) T+1≤2 * (cont d (its T)).length
 | 0,T,f,t,h=>by
   have h1:(cont 0 (its T)).length=(its T).length:=List.length_map ..;have h2:(its T).length ≠ 0:=fun e=>h.2.1.some (List.length_eq_zero_iff.1 e)
   have h3:jl (0+1) T≤1:=by
    cases e:kX T with
    | inl q=>unfold jl; rw [e]; exact Nat.zero_le _
    | inr l =>
      have e2:=uj e;have e3:∀ l:Its 0,bf 0 l=0:=fun l=>by
       induction l with
       | nil=>rfl
       | cons x r ih=>simpa [bf,jl] using ih
      rw [e3] at e2;omega
   omega
 | d+1,T,f,t,h=>by
   have hk:∀ x ∈ its T,∃ f t,l7 d x.2.2 f t:=pM (fun T=>∃ f t,l7 d T f t) (fun T f t h=>⟨f,t,h⟩) (its T) f t h.1;have h2:=h.2.2 (by omega);have h3:=P9 (fun x:bK (Kd (d+1))=>jl (d+1) x.2.2) (fun x=>(cont d (its x.2.2)).length) (its T) (fun x hx=>by
    obtain ⟨f,t,hx⟩:=hk x hx;exact Wq d x.2.2 f t hx)
   have h4:(cont (d+1) (its T)).length=((its T).map (fun x=>(cont d (its x.2.2)).length)).sum:=by
    show (List.flatMap _ _).length=_;rw [List.length_flatMap]
   have h5:jl (d+1+1) T≤1+bf (d+1) (its T):=by
    cases e:kX T with
    | inl q=>unfold jl; rw [e]; exact Nat.zero_le _
    | inr l =>
      have e2:=uj e;have e3:its T=l:=by unfold its; rw [e]; rfl
      rw [e3];omega
   have h6:bf (d+1) (its T)=((its T).map (fun x=>jl (d+1) x.2.2)).sum:=rfl;omega
end Go.Proofs.YtljjcbmkbmloaaaGreatDoor
