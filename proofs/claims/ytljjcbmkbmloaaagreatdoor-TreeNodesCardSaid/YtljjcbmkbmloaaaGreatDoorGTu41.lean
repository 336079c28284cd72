import Derived.Test.YtljjcbmkbmloaaaGreatDoorGTu40
import Derived.Test.YtljjcbmkbmloaaaGreatDoorGTu10
import Derived.Test.YtljjcbmkbmloaaaGreatDoorGTuA
namespace Go.Proofs.YtljjcbmkbmloaaaGreatDoor
set_option maxRecDepth 100000
set_option linter.unusedVariables false
open Go.ChangeShapes Go.WideShapes Go.ChangeAt Go.RowKit
abbrev eH:=Nat×Array Value×TypeId
structure QL (w0 w:World)(P D gl n:Nat)(ks:bY)(F:Nat→Bool)(b:Nat)(V:bY)(ws:bW)(lim:Int)(dn:Bool)(L:List eH)(M:List Nat):Prop where
 po:PO w0 w (P::(L.map (·.1)++M)) D gl n V ws lim dn
 pl:PL w P D n ks F b
 pn:w0.heap.size≤P
 kt:KT w0
 tz:TZ w0
 rows:∀ r ∈ L,w.heap[r.1]? = some (.cells r.2.1 r.2.2 (0,0))∧r.1 ≠ P∧w0.heap.size≤r.1
 Ro:P ∉ M
section
variable {w0 w w':World} {P D gl n b:Nat} {ks V:bY} {F:Nat→Bool} {ws:bW} {lim:Int} {dn:Bool} {L:List eH} {M:List Nat}
theorem QL.bel (h:QL w0 w P D gl n ks F b V ws lim dn L M):Below w0.heap.size w0 w:=h.po.bel
theorem QL.ktn (h:QL w0 w P D gl n ks F b V ws lim dn L M):KT w:=h.kt.below h.bel h.kt.pos
theorem QL.tzn (h:QL w0 w P D gl n ks F b V ws lim dn L M):TZ w:=h.tz.below h.bel
theorem QL.nek (h:QL w0 w P D gl n ks F b V ws lim dn L M):P ≠ 2:=by
 have:=h.kt.pos;have:=h.pn;omega
theorem QL.below (h:QL w0 w P D gl n ks F b V ws lim dn L M)(q:Below w.heap.size w w'):QL w0 w' P D gl n ks F b V ws lim dn L M :=
 ⟨h.po.below q,h.pl.below q,h.pn,h.kt,h.tz,fun r hr=>⟨(q.block _ (lt_of_block (h.rows r hr).1)).trans (h.rows r hr).1,(h.rows r hr).2⟩,h.Ro⟩
theorem QL.row (h:QL w0 w P D gl n ks F b V ws lim dn L M)(i:Nat)(r:eH)(hr:L[i]? = some r):w.heap[r.1]? = some (.cells r.2.1 r.2.2 (0,0)):=(h.rows r (List.mem_of_getElem? hr)).1
theorem QL.add (h:QL w0 w P D gl n ks F b V ws lim dn L M)(q:Below w.heap.size w w')(X:Nat)(R:Array Value)(T:TypeId)(hX:w.heap.size≤X)(hR:w'.heap[X]? = some (.cells R T (0,0))):QL w0 w' P D gl n ks F b V ws lim dn ((X,R,T)::L) M:=by
 have h2:=h.below q;have hp:=h.pl.lt;have hs:=h.bel.size;refine ⟨?_,h2.pl,h.pn,h.kt,h.tz,fun r hr=>?_,h.Ro⟩
 ·have hq:=h.po.add q X hX (lt_of_block hR)
  obtain ⟨bm,vw,a1,a2,a3,a4⟩:=hq;refine ⟨bm,vw,a1,fun g hg=>⟨(a2 g hg).1,fun hm=>(a2 g hg).2 ?_⟩,fun k hk=>a3 k ?_,a4⟩
  ·simp only [List.map_cons,List.cons_append,List.mem_cons] at hm ⊢
   rcases hm with h1 | h1 | h1
   ·exact .inr (.inl h1)
   ·exact .inl h1
   exact .inr (.inr h1)
  simp only [List.map_cons,List.cons_append,List.mem_cons] at hk ⊢;rcases hk with h1 | h1 | h1
  ·exact .inr (.inl h1)
  ·exact .inl h1
  exact .inr (.inr h1)
 rcases List.mem_cons.1 hr with rfl | hr
 ·exact ⟨hR,by show X ≠ P; omega,by show w0.heap.size≤X; omega⟩
 exact h2.rows r hr
theorem QL.pool {F':Nat→Bool}{b':Nat}(h:QL w0 w P D gl n ks F b V ws lim dn L M)(t:Touch [P] w w')(hp:PL w' P D n ks F' b'):QL w0 w' P D gl n ks F' b' V ws lim dn L M :=
 ⟨h.po.touch t (fun k hk=>by simp only [List.mem_singleton] at hk; subst hk; exact ⟨List.mem_cons_self ..,h.pn⟩),hp,h.pn,h.kt,h.tz,fun r hr=>⟨(t.block _ (lt_of_block (h.rows r hr).1) (by simpa using (h.rows r hr).2.1)).trans (h.rows r hr).1,(h.rows r hr).2⟩,h.Ro⟩
theorem QL.dev {bm Ib:Nat}{vw GL:Value}{V':bY}{ws':bW}{lim':Int}{dn':Bool}{F':Nat→Bool}{b':Nat}
 (h:QL w0 w P D gl n ks F b V ws lim dn L M) (hd:PD w D gl bm n vw V ws lim dn) (hf:∀ g ∈ l9 D gl bm vw,w0.heap.size≤g∧g ∉ P::(L.map (·.1)++M))
 (hd':PD w' D gl Ib n GL V' ws' lim' dn') (hp':PL w' P D n ks F' b') (t:Touch (P::l9 D gl bm vw) w w') (hn:∀ g ∈ l9 D gl Ib GL,g ∈ l9 D gl bm vw∨w.heap.size≤g) :
 QL w0 w' P D gl n ks F' b' V' ws' lim' dn' L M∧qQ M w w':=by
 have hlt:∀ k ∈ P::(L.map (·.1)++M),k<w.heap.size:=by obtain ⟨_,_,_,_,a3,_⟩:=h.po; exact a3
 have hst:∀ k ∈ L.map (·.1)++M,k ≠ P→w'.heap[k]? = w.heap[k]? := fun k hk hne=>t.block k (hlt k (List.mem_cons_of_mem _ hk)) (fun e=>by
  rcases List.mem_cons.1 e with e | e
  ·exact hne e
  exact (hf k e).2 (List.mem_cons_of_mem _ hk))
 have hb:=h.bel
 refine ⟨⟨⟨Ib,GL,hd',fun g hg=>?_,fun k hk=>Nat.lt_of_lt_of_le (hlt k hk) t.size,hb.trans (t.below hb.size (fun k hk=>?_))⟩,hp',h.pn,h.kt,h.tz,fun r hr=>⟨(hst _ (List.mem_append_left _ (List.mem_map_of_mem hr)) (h.rows r hr).2.1).trans (h.rows r hr).1,(h.rows r hr).2⟩,h.Ro⟩,fun k hk=>hst k (List.mem_append_right _ hk) (fun e=>h.Ro (e ▸ hk))⟩
 ·rcases hn g hg with h1 | h1
  ·exact hf g h1
  exact ⟨Nat.le_trans hb.size h1,fun hm=>by have:=hlt g hm; omega⟩
 ·rcases List.mem_cons.1 hk with rfl | hk
  ·exact h.pn
  exact (hf k hk).1
end
section
variable {w0 w:World} {P D gl n b:Nat} {ks V:bY} {F:Nat→Bool} {ws:bW} {lim:Int} {dn:Bool} {L:List eH} {M:List Nat}
theorem agp {D gl bm:Nat}{vw GL:Value}{s:Nat}(h:∀ g,GL.ownBlock=some g→vw.ownBlock=some g∨s≤g):∀ g ∈ l9 D gl bm GL,g ∈ l9 D gl bm vw∨s≤g:=by
 intro g hg;simp only [l9,List.mem_cons,Option.mem_toList] at hg ⊢;rcases hg with h1 | h1 | h1 | h1
 ·exact .inl (.inl h1)
 ·exact .inl (.inr (.inl h1))
 ·exact .inl (.inr (.inr (.inl h1)))
 rcases h g h1 with h2 | h2
 ·exact .inl (.inr (.inr (.inr h2)))
 exact .inr h2
theorem adi (x:Nat)(h:QL w0 w P D gl n ks F b V ws lim dn L M) :
 Calls Tryz.prog 32 #[.pointer (some ⟨P,0,none⟩),.int .u64 (x:Int)] w fun e w'=>e = .returned (.int .i64 (if x=0 then 2 else 0))∧QL w0 w' P D gl n ks F (if x=0 then b else x) V ws lim dn L M∧Touch [P] w w' :=
 (UW P D n b x ks F w h.pl).mono fun e w' ⟨he,hp,ht⟩=>⟨he,h.pool ht hp,ht⟩
theorem agq (h:QL w0 w P D gl n ks F b V ws lim dn L M) :
 Calls Tryz.prog 25 #[.pointer (some ⟨P,0,none⟩)] w fun e w'=>e = .returned (.int .i64 (cnt F n:Nat))∧w'=w:=UX P D n b ks F w h.pl
theorem adk (k v p:Value)(nd:az)(h:QL w0 w P D gl n ks F b V ws lim dn L M)(hn:NR w k v p nd)(hnb:NB nd)(hb0:b ≠ 0)(hc:checkN nd=0)(hF:∀ a,F a=false) :
 Calls Tryz.prog 59 #[.pointer (some ⟨P,0,none⟩),.agg #[.bool nd.lf,k,v,p]] w fun e w'=>e = .returned (.tuple #[.agg (ag ai).toArray,.int .i64 6])∧Below w.heap.size w w':=ada P D n b ks F k v p nd w h.pl hn hnb hb0 hc hF
def JZ (kk:bY)(b a:Nat)(nd:az):bY:=fU kk b a (xP nd)
def Aa (kk:bY)(b a:Nat)(nd:az):ay:=eP b a ((JZ kk b a nd).map yv)
def xQ (k:bY)(n:Nat)(q:ay)(V:bY)(ws:bW)(dn:Bool):az×Int :=
 if q.ad=0∨iE q n ≠ 0 then (je,2) else if dn=true then (je,7) else upR k q (uD V ws q.ad.toNat)
theorem WH (P' b':Nat)(F':Nat→Bool)(kk m:bY)(q:ay)(h:QL w0 w P D gl n ks F b V ws lim dn L M)(hp:PL w P' D n (kk++m) F' b')(hk:kk.length=32)(hm:m.length=32) :
 Calls Tryz.prog 45 #[.pointer (some ⟨P',0,none⟩),.agg (ag q).toArray] w fun e w'=>∃ k v p',e = .returned (.tuple #[.agg #[.bool (xQ kk n q V ws dn).1.lf,k,v,p'],.int .i64 (xQ kk n q V ws dn).2])∧NR w' k v p' (xQ kk n q V ws dn).1∧Below w.heap.size w w':=by
 obtain ⟨bm,vw,hd,hf,a3,a4⟩:=h.po
 unfold xQ
 by_cases h0:q.ad=0
 ·rw [if_pos (.inl h0)]
  exact (adf P' D gl bm n b' vw V ws lim dn (kk++m) F' q w hp hd h0).mono fun e w' ⟨he,hb⟩=>⟨_,_,_,he,qw _,hb⟩
 ·by_cases hc:iE q n=0
  ·rw [if_neg (by simp [h0,hc])]
   cases dn with
   | true =>
     rw [if_pos rfl];exact (adh P' D gl bm n b' vw V ws lim true (kk++m) F' q w hp hd h0 hc rfl).mono fun e w' ⟨he,hb⟩=>⟨_,_,_,he,qw _,hb⟩
   | false =>
     rw [if_neg (by simp)];have ha:=q.a0;exact aji P' D gl bm n b' vw V ws lim false (kk++m) F' q w hp hd kk m rfl hk hm h.ktn q.ad.toNat h0 hc rfl (by omega) _ rfl
  rw [if_pos (.inr hc)];exact (agm P' D gl bm n b' vw V ws lim dn (kk++m) F' q w hp hd h0 hc).mono fun e w' ⟨he,hb⟩=>⟨_,_,_,he,qw _,hb⟩
theorem adl (keep:Nat)(lN:Int)(h:QL w0 w P D gl n ks F b V ws lim dn L M)(hws:ws.length≤1000000)(hk:keep<18446744073709551616) :
 Calls Tryz.prog 17 #[.pointer (some ⟨D,0,none⟩),.int .u64 (keep:Int),.int .i64 lN] w fun e w'=>e = .returned (.tuple #[])∧QL w0 w' P D gl n ks F b (jX keep lN V ws ws.length) [] (-1) false L M∧qQ M w w':=by
 obtain ⟨bm,vw,hd,hf,a3,a4⟩:=h.po
 refine (UN D gl bm n keep lN vw V ws lim dn w hd hws hk).mono ?_
 rintro e w' ⟨he,Ib,hd',ht,hn⟩
 have hne:∀ g ∈ [D,gl],P ≠ g:=fun g hg e=>(hf g (by simp only [List.mem_cons,List.not_mem_nil,or_false] at hg; rcases hg with rfl | rfl <;> simp [l9])).2 (by rw [← e]; exact List.mem_cons_self ..)
 exact ⟨he,h.dev hd hf hd' (h.pl.touch ht (fun hm=>hne P hm rfl)) (ht.more (by intro k hk; simp only [List.mem_cons,List.not_mem_nil,or_false] at hk; rcases hk with rfl | rfl <;> simp [l9])) (CX hn)⟩
theorem adm (h:QL w0 w P D gl n ks F b V ws (-1) false L M)(hws:ws.length≤1000000) :
 Calls Tryz.prog 16 #[.pointer (some ⟨D,0,none⟩)] w fun e w'=>e = .returned (.int .i64 0)∧QL w0 w' P D gl n ks F b (jG V ws) [] (-1) false L M∧qQ M w w':=by
 obtain ⟨bm,vw,hd,hf,a3,a4⟩:=h.po
 refine (Y2 D gl bm n vw V ws (-1) w hd (by decide) hws).mono ?_
 rintro e w' ⟨he,Ib,hd',ht,hn⟩
 rw [Qu] at hd'
 have hne:∀ g ∈ [D,gl],P ≠ g:=fun g hg e=>(hf g (by simp only [List.mem_cons,List.not_mem_nil,or_false] at hg; rcases hg with rfl | rfl <;> simp [l9])).2 (by rw [← e]; exact List.mem_cons_self ..)
 exact ⟨he,h.dev hd hf hd' (h.pl.touch ht (fun hm=>hne P hm rfl)) (ht.more (by intro k hk; simp only [List.mem_cons,List.not_mem_nil,or_false] at hk; rcases hk with rfl | rfl <;> simp [l9])) (CX hn)⟩
end
theorem yR {kk:bY}{b a:Nat}{nd:az}(ha:a<4294967296)(hb:b<18446744073709551616):(Aa kk b a nd).ad=(a:Int)∧(Aa kk b a nd).bi=(b:Int)∧(Aa kk b a nd).su=di ((JZ kk b a nd).map yv):=qU b a _ ha hb
theorem QN {kk:bY}{b a n:Nat}{nd:az}(ha2:2≤a)(Lh:a<n)(ha:a<4294967296)(hb:b<18446744073709551616)(hb0:b ≠ 0):(Aa kk b a nd).ad ≠ 0∧iE (Aa kk b a nd) n=0:=by
 obtain ⟨h1,h2,_⟩:=yR (kk:=kk) (nd:=nd) ha hb;refine ⟨by omega, ?_⟩;have hm:Lm (Aa kk b a nd) n=true:=by
  unfold Lm;rw [if_neg (show ¬ (Aa kk b a nd).ad=0 by omega)];simp only [Bool.and_eq_true,decide_eq_true_eq];refine ⟨⟨by omega,by omega⟩,by omega⟩
 unfold iE;rw [if_pos hm]
theorem QO {kk:bY}{b a n:Nat}{nd:az}{V:bY}{ws:bW}(hc:checkN nd=0)(ha2:2≤a)(Lh:a<n)(ha:a<4294967296)(hb:b<18446744073709551616)(hb0:b ≠ 0)(hL:uD V ws a=JZ kk b a nd):xQ kk n (Aa kk b a nd) V ws false=(nd,0):=by
 obtain ⟨h1,h2,h3⟩:=yR (kk:=kk) (nd:=nd) ha hb;obtain ⟨h4,h5⟩:=QN (kk:=kk) (nd:=nd) ha2 Lh ha hb hb0;unfold xQ;rw [if_neg (by simp [h4,h5]),if_neg (by simp),h1,Int.toNat_natCast,hL];have ho:kV kk (Aa kk b a nd) (JZ kk b a nd)=(xP nd,0):=Na kk b a (xP nd) (zZ hc) hb ha;unfold upR;rw [ho,if_neg (by simp),G6 hc,ae5 hc]
theorem adn {n:az}(h:checkN n=0):NB n:=by
 obtain ⟨h1,h2⟩:=A8 h;obtain ⟨h3,h4⟩:=pJ (nJ h).1;have h5:n.vs.length≤510:=by
  have hf:=nH (nJ h).1;cases hl:n.lf with
  | true=>have:=(qA hl hf).1; omega
  | false=>have:=(ng hl hf).2.1; rw [this]; simp
 exact ⟨by omega,fun s hs=>by have:=h3 s hs; omega,by omega,fun s hs=>by have:=h4 s hs; omega,by omega⟩
section
end
theorem nD (w:World)(o1 c1:Array Value)(T1:TypeId):∀ W,W=(w.alloc (.cells o1 T1)).setRow w.heap.size c1→W.heap[w.heap.size]? = some (.cells c1 T1 (0,0))∧Below w.heap.size w W:=by
 rintro W rfl;exact ⟨setRow_heap _ _ _ _ _ _ (heap_alloc_new w _),aG ((Below.refl w.heap.size w).alloc (Nat.le_refl _) _) (Nat.le_refl _) _⟩
section
variable {w0 w w':World} {P D gl n b:Nat} {ks V:bY} {F:Nat→Bool} {ws:bW} {lim:Int} {dn:Bool} {L:List eH} {M:List Nat}
theorem ado {K:List Nat}(h:PO w0 w K D gl n V ws lim dn)(q:Below w.heap.size w w')(hP:w.heap.size≤P)(hp:PL w' P D n ks F b)(hK:KT w0)(hT:TZ w0):QL w0 w' P D gl n ks F b V ws lim dn [] K:=by
 have hlt:∀ k ∈ K,k<w.heap.size:=by obtain ⟨_,_,_,_,a3,_⟩:=h; exact a3
 exact ⟨h.add q P hP hp.lt,hp,Nat.le_trans h.bel.size hP,hK,hT,fun r hr=>absurd hr (by simp),fun e=>by have:=hlt P e; omega⟩
theorem QL.adp {l:List Nat}(h:QL w0 w P D gl n ks F b V ws lim dn L M)(t:Touch l w w')(hl:∀ k ∈ l,k ∈ M∧w0.heap.size≤k)(hr:∀ r ∈ L,r.1 ∉ l):QL w0 w' P D gl n ks F b V ws lim dn L M :=
 ⟨h.po.touch t (fun k hk=>⟨List.mem_cons_of_mem _ (List.mem_append_right _ (hl k hk).1),(hl k hk).2⟩),h.pl.touch t (fun e=>h.Ro (hl P e).1),h.pn,h.kt,h.tz,fun r hm=>⟨(t.block _ (lt_of_block (h.rows r hm).1) (hr r hm)).trans (h.rows r hm).1,(h.rows r hm).2⟩,h.Ro⟩
theorem QL.less {L':List eH}{M':List Nat}(h:QL w0 w P D gl n ks F b V ws lim dn L M)(hL:∀ r ∈ L',r ∈ L)(hM:∀ k ∈ M',k ∈ M):QL w0 w P D gl n ks F b V ws lim dn L' M':=by
 have hk:∀ k ∈ P::(L'.map (·.1)++M'),k ∈ P::(L.map (·.1)++M):=fun k hk=>by
  rcases List.mem_cons.1 hk with rfl | hk
  ·exact List.mem_cons_self ..
  rcases List.mem_append.1 hk with hk | hk
  ·obtain ⟨r,hr,rfl⟩:=List.mem_map.1 hk
   exact List.mem_cons_of_mem _ (List.mem_append_left _ (List.mem_map_of_mem (hL r hr)))
  exact List.mem_cons_of_mem _ (List.mem_append_right _ (hM k hk))
 obtain ⟨bm,vw,a1,a2,a3,a4⟩:=h.po;exact ⟨⟨bm,vw,a1,fun g hg=>⟨(a2 g hg).1,fun e=>(a2 g hg).2 (hk g e)⟩,fun k hm=>a3 k (hk k hm),a4⟩,h.pl,h.pn,h.kt,h.tz,fun r hr=>h.rows r (hL r hr),fun e=>h.Ro (hM P e)⟩
end
def uN:bY:=QE QG
theorem nV:uN.length=32:=QF _
theorem nX:keyE.length=32:=by decide +kernel
end Go.Proofs.YtljjcbmkbmloaaaGreatDoor
