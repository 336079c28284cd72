import Derived.Test.YtljjcbmkbmloaaaGreatDoorGTu23
import Derived.Test.YtljjcbmkbmloaaaGreatDoorGTu24
import Derived.Test.YtljjcbmkbmloaaaGreatDoorGTuA
namespace Go.Proofs.YtljjcbmkbmloaaaGreatDoor
set_option maxHeartbeats 3200000
set_option maxRecDepth 100000
set_option linter.unusedVariables false
section
open Go.ChangeShapes Go.WideShapes Go.ChangeAt Go.RowKit
def mQ (LQ:ay→az→Prop)(ok:Nat→Prop)(d:Nat)(c:Cg)(fr f t:ByteArray)(M:Its d)(w:World)(e:Ending)(w':World):Prop :=
 (c.err (cont d M) ≠ 0∧e = .returned (.tuple #[.slice none 0 0,.int .i64 (c.err (cont d M))]) ∨
   c.err (cont d M)=0∧∃ va S,e = .returned (.tuple #[.slice va S.length S.length,.int .i64 0])∧Alt d c fr f t M S∧jQ LQ w' (fun k=>ok k∨w.heap.size≤k) d va S.length S∧∀ b,va=some b→w.heap.size≤b.block∧∀ x ∈ S,TR LQ w' (fun k=>(ok k∨w.heap.size≤k)∧k ≠ b.block) (d+1) x.2.2)∧Below w.heap.size w w'
def Wn (LQ:ay→az→Prop)(ok:Nat→Prop)(d g cc:Nat)(c:Cg)(f t:ByteArray)(L:Its (d+1))(w:World)(e:Ending)(w':World):Prop :=
 ∃ N,e = .returned (.tuple #[.slice (some ⟨g,0,none⟩) N.length cc,.int .i64 0])∧Gn d c f t L N∧OB w' g cc (d+1) N∧(∀ x ∈ N,TR LQ w' (fun k=>ok k∨w.heap.size≤k) (d+1) x.2.2)∧Touch [g] w w'
def zN (LQ:ay→az→Prop)(ok:Nat→Prop)(d g cc:Nat)(c:Cg)(f t:ByteArray)(L:Its (d+1))(w:World)(e:Ending)(w':World):Prop :=
 c.err (cont (d+1) L) ≠ 0∧e = .returned (.tuple #[.slice none 0 0,.int .i64 (c.err (cont (d+1) L))])∧Touch [g] w w' ∨
  c.err (cont (d+1) L)=0∧Wn LQ ok d g cc c f t L w e w'
theorem acn {d:Nat}{L:Its (d+1)}{f t:ByteArray}(h:lX (d+1) L f t)(ho:qZ (d+1) L):L.Pairwise (fun x y=>lo x.1 y.1=true):=by
 match L,h,ho with
 | [],h,_=>exact List.Pairwise.nil
 | x::r,h,ho =>
   obtain ⟨h1,h2⟩:=iT (W:=l7 d) r x f t h;refine List.pairwise_cons.2 ⟨fun y hy=>?_,h2⟩;rw [ho.head (by omega) x r rfl];rcases vJ aY y.1 with e | e | e
   ·exact e
   ·exact absurd e.symm (h1 y hy).ne
   rw [oh] at e; cases e
theorem Wp {d:Nat}{c:Cg}{fr f t:ByteArray}{M:Its d}{x:bK (Kd (d+1))}(h:Alt d c fr f t M [x]):x.1=fr∧TP d x.2.2 f t:=by
 cases h.st (by simp) with
 | one _ e1 e2 hw=>exact ⟨e1,hw⟩
theorem aco (LQ:ay→az→Prop)(ok:Nat→Prop)(d t P g cc:Nat)(c:Cg)(rt:Value)(a b:Its (d+1))(x x':bK (Kd (d+1)))(f s:ByteArray)(w:World)(ht:w.heap[t]? = some (.cells #[.pointer (some ⟨P,0,none⟩),rt] 94 (0,0)))(hr:RD LQ w P)(h:OB w g cc (d+1) (a++x'::b))(hc:(a++x::b).length+1≤cc)(hc2:cc≤1001)
 (hk:∀ y ∈ a++x'::b,TR LQ w ok (d+1) y.2.2) (hok:∀ k,ok k→k<w.heap.size∧k ≠ g) (hw:lX (d+1) (a++x::b) f s) (ho:qZ (d+1) (a++x::b)) (h2:2≤(a++x::b).length) (hs:LV f s c.key) (hF:bf (d+1) (a++x::b)+4 * (d+1)+10≤1000000)
 (hk1:lo c.key x.1=false) (hk2:∀ y r,b=y::r→lo c.key y.1=true) (hS:Alt d c x.1 (oQ f (a++x::b) a.length) (uB s (a++x::b) a.length) (its x.2.2) [x']) (hsm:jr (d == 0) (its x'.2.2)<128) :
 Calls Tryz.prog 125 #[.pointer (some ⟨t,0,none⟩),.slice (some ⟨g,0,none⟩) (a++x'::b).length cc,.int .i64 (a.length:Nat),.agg #[.string f,.string s]] w fun e w'=>Wn LQ ok d g cc c f s (a++x::b) w e w':=by
 have hcont:=Pq hw hS (fun _=>hk1) hk2
 have Bq:=Wh (a:=a) (b:=b) hS
 obtain ⟨hx1,hxw⟩:=Wp hS
 have hne:=MM hs
 have hall:∀ (a:Its (d+1)) (y:bK (Kd (d+1))) (b:Its (d+1)),lX (d+1) (a++y::b) f s→l7 d y.2.2 (oQ f (a++y::b) a.length) (uB s (a++y::b) a.length):=fun a y b hw=>wQ (W:=l7 d) (a++y::b) f s a.length y hw (by simp)
 rcases List.eq_nil_or_concat a with rfl | ⟨a',p,rfl⟩
 ·match b,h2 with
  | q::b,_ =>
    have am1:TP d x'.2.2 (oQ f ([]++x::q::b) ([]:Its (d+1)).length) q.1:=hxw;have hq:=hall [x] q b hw;have hpre:=PV (a:=[]) (p:=x) (q:=q) (p':=x') (q':=q) hw ho hne hx1 rfl am1 (by have:=hq.weak; exact this) (.inl hsm) (by
     have e:bf (d+1) ([]++([x']++q::b))=jl (d+1) x'.2.2+(jl (d+1) q.2.2+bf (d+1) b):=rfl
     rw [e] at Bq
     omega)
    refine (PQ LQ ok d t P g cc 0 x' q [] b rt f s w ht hr h rfl (by omega) (by simpa using hc) hc2 hk hok hpre.op hpre.oq hpre.cp hpre.cq hpre.m).mono ?_;rintro e w' ⟨A,B,S,rfl,eA,eB,hp,hob,htr,htt⟩;exact ⟨_,rfl,CO (a:=[]) (p:=x) (q:=q) (p':=x') (q':=q) hw ho hx1 rfl am1 (by have:=hq.weak; exact this) (.inl hsm) eA eB hp hcont Bq,hob,htr,htt⟩
  | [],h2=>simp at h2
 ·have el:(a'.concat p)++x::b=a'++p::x::b:=by simp
  have el':(a'.concat p)++x'::b=a'++p::x'::b:=by simp
  have el2:(a'.concat p)++([x']++b)=a'++p::x'::b:=by simp
  have ln:(a'.concat p).length=a'.length+1:=by simp
  have hp:=hall a' p (x::b) (by rw [← el]; exact hw);rw [el,ln] at hxw;rw [el2,el] at hcont Bq;rw [el] at hw ho hc h2 hF ⊢;rw [el'] at h hk ⊢;rw [ln];have eT:uB s (a'++p::x::b) a'.length=x.1:=by rw [wY]; rfl
  have eF:oQ f (a'++p::x::b) (a'.length+1)=x.1:=by
   unfold oQ;rw [if_neg (by omega),List.getElem?_append_right (by omega),show a'.length+1 - a'.length=1 by omega];rfl
  rw [eF] at hxw;have hpw:=hp.weak;rw [eT] at hpw;have hpre:=PV (a:=a') (p:=p) (q:=x) (p':=p) (q':=x') hw ho hne rfl hx1 hpw hxw (.inr hsm) (by
   have e:bf (d+1) (a'++p::x'::b)=bf (d+1) a'+(jl (d+1) p.2.2+(jl (d+1) x'.2.2+bf (d+1) b)):=by rw [fD]; rfl
   rw [e] at Bq
   omega)
  refine (PQ LQ ok d t P g cc (a'.length+1) p x' a' b rt f s w ht hr h (by omega) (by simp at hc; omega) (by simpa using hc) hc2 hk hok hpre.op hpre.oq hpre.cp hpre.cq hpre.m).mono ?_;rintro e w' ⟨A,B,S,rfl,eA,eB,hp,hob,htr,htt⟩;exact ⟨_,rfl,CO (a:=a') (p:=p) (q:=x) (p':=p) (q':=x') hw ho rfl hx1 hpw hxw (.inr hsm) eA eB hp hcont Bq,hob,htr,htt⟩
end
section
open Lib (hid)
open Go.ChangeShapes Go.WideShapes Go.ChangeAt Go.RowKit
theorem acp {LQ:ay→az→Prop}{ok:Nat→Prop}{d g cc vc:Nat}{va:bO}{a b S:Its (d+1)}{x:bK (Kd (d+1))}{w v3 w3 w4:World}(hL:OB w g cc (d+1) (a++x::b))(hk:∀ y ∈ a++x::b,TR LQ w ok (d+1) y.2.2)(hok:∀ k,ok k→k<w.heap.size∧k ≠ g)(hv:w.heap.size≤v3.heap.size)(h3:Below w.heap.size w w3)(hS:jQ LQ w3 (fun k=>ok k∨v3.heap.size≤k) d va vc S)(h4:Touch [g] w3 w4) :
 (∀ y ∈ a++(S++b),TR LQ w4 (fun k=>(ok k∨w.heap.size≤k)∧k<w4.heap.size∧k ≠ g) (d+1) y.2.2)∧Touch [g] w w4:=by
 have hg:=hL.lt
 have hT:Touch [g] w w4:=(Touch.of_below h3).trans h4
 have old:∀ y ∈ a++x::b,TR LQ w4 (fun k=>(ok k∨w.heap.size≤k)∧k<w4.heap.size∧k ≠ g) (d+1) y.2.2:=fun y hy =>
  ((hk y hy).keep (fun k hk=>hT.block k (hok k hk).1 (by simpa using (hok k hk).2))).more (fun _ _ h=>h) (fun k hk=>⟨.inl hk,Nat.lt_of_lt_of_le (hok k hk).1 hT.size,(hok k hk).2⟩)
 refine ⟨fun y hy=>?_,hT⟩
 rcases List.mem_append.1 hy with hy | hy
 ·exact old y (by simp [hy])
 ·rcases List.mem_append.1 hy with hy | hy
  ·have hne:∀ k,(ok k∨v3.heap.size≤k)→k ≠ g:=fun k hk=>by
    rcases hk with e | e
    ·exact (hok k e).2
    ·omega
   refine ((hS.kids y hy).bound.keep (fun k hk=>h4.block k hk.2 (by simpa using hne k hk.1))).more (fun _ _ h=>h) (fun k hk=>⟨?_,Nat.lt_of_lt_of_le hk.2 h4.size,hne k hk.1⟩);rcases hk.1 with e | e
   ·exact .inl e
   exact .inr (by omega)
  exact old y (by simp [hy])
theorem acr {κ:Type}(a b:List κ)(x:κ):(a++x::b).take a.length=a∧(a++x::b).drop (a.length+1)=b:=by
 refine ⟨List.take_left, ?_⟩;rw [← List.drop_drop,List.drop_left];rfl
theorem afM {d:Nat}{c:Cg}{fr f t:ByteArray}{M:Its d}{S:Its (d+1)}(h:Alt d c fr f t M S):S.length≤2:=by
 rcases Classical.em (S=[]) with rfl | hS
 ·simp
 cases h.st hS <;> simp
theorem am2 {d:Nat}{L:Its d}{f t:ByteArray}(h:lX d L f t)(o:qZ d L):Sm L:=Wl h (fun hd=>kM h o hd) (Nat.le_trans o.size (by decide))
theorem MN (LQ:ay→az→Prop)(ok:Nat→Prop)(d t P g cc:Nat)(c:Cg)(dv:Value)(rt:Value)(L:Its (d+1))(f s:ByteArray)(w0 w:World)(hw0:Below w0.heap.size w0 w)(hg0:w0.heap.size≤g)(ht:w0.heap[t]? = some (.cells #[.pointer (some ⟨P,0,none⟩),rt] 94 (0,0)))(hr:RD LQ w0 P)(h:OB w g cc (d+1) L)(hc:L.length+1≤cc)(hc2:cc≤1001)
 (hk:∀ y ∈ L,TR LQ w ok (d+1) y.2.2) (hok:∀ k,ok k→k<w.heap.size∧k ≠ g) (hw:lX (d+1) L f s) (ho:qZ (d+1) L) (h2:2≤L.length) (hs:LV f s c.key) (hF:bf (d+1) L+4 * (d+1)+10≤1000000)
 (hrec:∀ x ∈ L,∀ (W:World) (f' s':ByteArray),Below w.heap.size w W→l7 d x.2.2 f' s'→LV f' s' c.key→Calls Tryz.prog 69 #[.pointer (some ⟨t,0,none⟩),.agg #[.string x.1,.string x.2.1,.pointer (dA (d+1) x.2.2)],.agg #[.string f',.string s'],.string c.key,dv] W fun e w'=>mQ LQ ok d c x.1 f' s' (its x.2.2) W e w') :
 Calls Tryz.prog 90 #[.pointer (some ⟨t,0,none⟩),.slice (some ⟨g,0,none⟩) L.length cc,.agg #[.string f,.string s],.string c.key,dv] w fun e w'=>zN LQ ok d g cc c f s L w e w':=by
 have hrise:=acn hw ho
 obtain ⟨a,x,b,rfl,ha,hk1,hk2⟩:=YH L c.key hrise ho.some (ho.head (by omega))
 have hcap:=ho.len
 have hlen:(a++x::b).length=a.length+1+b.length:=by simp; omega
 have acs:=hid (fun (W:World) (hW:Below w.heap.size w W)=>aff (d+1) (some ⟨g,0,none⟩) (a++x::b).length cc (a++x::b) c.key W (h.is.below hW) (by omega) (List.pairwise_map.2 hrise))
 rw [← ha] at acs
 have HOF:=hid (fun (W:World) (hW:Below w.heap.size w W)=>pU (d+1) (some ⟨g,0,none⟩) (a++x::b).length cc a.length (a++x::b) f s W (h.is.below hW) (by omega) (by omega))
 rw [Gv hw ho a.length (by omega)] at HOF
 have afr:=hid (fun (W:World) (hW:Below w.heap.size w W)=>hrec x (by simp) W _ _ hW (wQ (W:=l7 d) (a++x::b) f s a.length x hw (by simp)) (aiX hs hk1 hk2))
 have YI:=hid (show c.err (cont (d+1) (a++x::b))=c.err (cont d (its x.2.2)) by
  obtain ⟨ka,kb⟩:=Gq hw (fun _=>hk1) hk2;rw [dM,gZ (d+1) x b,fP,Cg.ae8 c _ _ _ ka kb])
 have c10:=(h.at3 a.length x (by simp)).k
 have c11:=(h.at3 a.length x (by simp)).v
 have c12:=(h.at3 a.length x (by simp)).p
 have hix:=bT g 0 (a++x::b).length cc a.length (by omega)
 simp only [Nat.zero_add] at hix
 obtain ⟨ht1,ht2⟩:=acr a b x
 have PG:=hid (fun (W:World) (hW:OB W g cc (d+1) (a++x::b)) (va:bO) (S:Its (d+1)) (hv:VS W g va S.length (d+1) S) (hS:S.length≤2)=>yG (d+1) g cc a.length (a.length+1) S.length va (a++x::b) S W hW hv (by omega) (by omega) hc (by omega) (by omega))
 rw [ht1,ht2] at PG
 have HJ:=hid (fun (W:World) (ok':Nat→Prop) (x':bK (Kd (d+1))) (hW:Touch [g] w W) (hO:OB W g cc (d+1) (a++x'::b)) (hK:∀ y ∈ a++x'::b,TR LQ W ok' (d+1) y.2.2) (hOK:∀ k,ok' k→k<W.heap.size∧k ≠ g)=>aco LQ ok' d t P g cc c rt a b x x' f s W (((bC hw0 hW hg0).block t (lt_of_block ht)).trans ht) (hr.below (bC hw0 hW hg0)) hO hc hc2 hK hOK hw ho h2 hs hF hk1 hk2)
 have PX:=hid (fun (S:Its (d+1)) hS hsm=>Ut (c:=c) (S:=S) hw ho h2 hS hsm (fun _=>hk1) hk2)
 have xH:=hid h
 have HK:=hid hk
 have qP:=hid hok
 have hnI:((a++x::b).length:Int)≤1000:=by omega
 generalize oQ f (a++x::b) a.length=fx at *
 generalize uB s (a++x::b) a.length=tx at *
 generalize hLL:a++x::b=L at *
 have HLL:=hid hLL
 obtain ⟨n,hn⟩:∃ n,L.length=n:=⟨_,rfl⟩
 rw [hn] at acs HOF PG hix hnI hlen ⊢
 obtain ⟨l,hl⟩:∃ l,a.length=l:=⟨_,rfl⟩
 have HL:=hid hl
 rw [hl] at acs HOF PG HJ c10 c11 c12 hix hlen
 have lI:(l:Int)<(n:Int):=by omega
 have l0:(0:Int)≤(l:Int):=by omega
 rw [show ((l+1:Nat):Int)=(l:Int)+1 by omega] at PG
 obtain ⟨E,hE⟩:∃ E,c.err (cont d (its x.2.2))=E:=⟨_,rfl⟩
 have HE:=hid hE
 rw [hE] at YI
 clear hw0 hg0 ht hr h hc hc2 hk hok hw ho h2 hs hF hrec hrise ha hk1 hk2 hcap hlen ht1 ht2 hLL hn hl hE
 go_in
 go_wp2_with fail
 refine (acs.out _ (aK w _)).mono ?_
 rintro e w1 ⟨rfl,hb1⟩
 have HB1:=hid (aJ (aK w (.cells #[.string f,.string s] 96)) hb1)
 have b0:=cell_of_row (w.alloc (.cells #[.string f,.string s] 96)) w.heap.size 0 _ _ _ (ah w _)
 have b1:=cell_of_row (w.alloc (.cells #[.string f,.string s] 96)) w.heap.size 1 _ _ _ (ah w _)
 have s0:=ae b0 (hb1.block _ (block_lt_of_cell b0))
 have s1:=ae b1 (hb1.block _ (block_lt_of_cell b1))
 have kx0:=ae c10 (HB1.out.block _ (block_lt_of_cell c10))
 have kx1:=ae c11 (HB1.out.block _ (block_lt_of_cell c11))
 have kx2:=ae c12 (HB1.out.block _ (block_lt_of_cell c12))
 have PI:=hid (fun (W:World) (hW:Below w1.heap.size w1 W)=>HOF.out W (aJ HB1.out hW))
 have ahf:=hid (fun (W:World) (hW:Below w1.heap.size w1 W)=>afr.out W (aJ HB1.out hW))
 have Vt:=hid (And.intro s0 s1)
 clear b0 b1 hb1 c10 c11 c12 HOF afr acs
 go_upto_region 2 with fail
 try simp only [Act.put]
 refine wp_region_noPanic ?_
 refine wp_region_held_drew (S:=fun W=>Below w1.heap.size w1 W) (by kernel_rfl) (Below.refl _ w1).drew (fun hHeld=>?_)
 refine tR 0 19 (h:=tR 1 20 (h:=tR 2 21 (h:=tR 3 22 (h:=?_))))
 refine tK 4 23 (.agg #[.string x.1,.string x.2.1,.pointer (dA (d+1) x.2.2)]) rfl (Or.inl ⟨by rfl, ?_⟩) ?_
 ·(intro w' hSw; have q0:=ae kx0 (hSw.block _ (block_lt_of_cell kx0)); have q1:=ae kx1 (hSw.block _ (block_lt_of_cell kx1)); have q2:=ae kx2 (hSw.block _ (block_lt_of_cell kx2)); go_simp; try with_reducible rfl)
 try simp only [Act.put,pZ]
 refine tK 5 24 (.agg #[.string f,.string s]) rfl (Or.inl ⟨by rfl, ?_⟩) ?_
 ·(intro w' hSw; have q0:=ae s0 (hSw.block _ (block_lt_of_cell s0)); have q1:=ae s1 (hSw.block _ (block_lt_of_cell s1)); go_simp; try with_reducible rfl)
 try simp only [Act.put,pZ]
 refine tR 6 25 (h:=tR 7 26 (h:=tR 9 28 (h:=tR 10 29 (h:=?_))))
 refine rD 8 rfl fun K hK=>?_
 go_simp
 go_at_call 58
 refine (PI.out w1.drew (Below.refl _ w1).drew).mono ?_
 rintro e v1 ⟨rfl,hbv⟩
 have zM:=hid (show Below w1.heap.size w1 v1 from (Below.refl w1.heap.size w1).drew.trans hbv)
 clear hbv
 go_wp2_with fail
 refine hK.out _ _ (zM.out) (fun hHeld=>?_)
 clear hK K
 try simp only [Act.put,pZ]
 refine rD 11 rfl fun K hK=>?_
 go_simp
 go_at_call 69
 refine (ahf.out v1 zM.out).mono ?_
 rintro e w2 ⟨hq,hb2⟩
 rw [HE.out] at hq
 have HB2:=hid (show Below w1.heap.size w1 w2 from zM.out.trans (hb2.mono zM.out.size))
 clear hb2
 rcases hq with hq | hq
 ·obtain ⟨hE0,rfl⟩:=hq
  go_wp2_with fail;refine hK.out _ _ HB2.out (fun hHeld=>?_);clear hK K;try simp only [Act.put,pZ]
  refine tR 12 18 (h:=tR 13 31 (h:=tR 14 32 (h:=tR 15 13 (h:=tR 16 14 (h:=?_)))));refine wpAnyH_done (by decide +kernel) ?_ _;refine NoPanic.normal ?_;go_wp2_with fail;go_ret2;exact .inl ⟨by rw [YI.out]; exact hE0,by rw [YI.out]; rfl,Touch.of_below (aJ HB1.out HB2.out)⟩
 obtain ⟨hE0,va,S,rfl,hal,hst,_⟩:=hq
 have HS:=hid (And.intro hE0 (And.intro hal hst))
 clear hE0 hal hst
 go_wp2_with fail
 refine hK.out _ _ HB2.out (fun hHeld=>?_)
 clear hK K
 try simp only [Act.put,pZ]
 refine tR 12 18 (h:=tR 13 31 (h:=tR 14 32 (h:=tR 15 13 (h:=tR 16 14 (h:=?_)))))
 refine wpAnyH_done (by decide +kernel) ?_ _
 refine NoPanic.normal ?_
 all_goals skip
 have YJ:=hid (aJ HB1.out HB2.out)
 have HV:=hid (Nat.le_trans HB1.out.size zM.out.size)
 obtain ⟨hE0,hal,hst⟩:=HS.out
 obtain ⟨m3,ZY⟩:∃ m,(a++(S++b)).length=m:=⟨_,rfl⟩
 have hgl:=xH.out.lt
 have HVS:=hid (Gt hst (g:=g) (by rintro (e | e); exact (qP.out _ e).2 rfl; have:=HV.out; omega))
 have wE:=hid hal
 have HST:=hid hst
 have YL:=hid hE0
 have HM3:=hid ZY
 have HGL:=hid hgl
 clear hE0 hal hst hgl HS s0 s1 kx0 kx1 kx2 PI ahf hix
 go_wp2_with fail
 refine (PG.out w2 (xH.out.below YJ.out) va S HVS.out (afM wE.out)).mono ?_
 rw [ZY]
 rintro e w3 ⟨rfl,ho3,ht3⟩
 have vO:=hid ho3
 have HT3:=hid ht3
 have HK3:=hid (acp (vc:=S.length) (by rw [HLL.out]; exact xH.out) (by rw [HLL.out]; exact HK.out) qP.out HV.out YJ.out HST.out ht3)
 clear ho3 ht3 ZY
 by_cases h1:S.length=1
 ·obtain ⟨x',rfl⟩:∃ x',S=[x']:=List.length_eq_one_iff.1 h1
  rcases HST.out.row with ⟨_,e⟩ | ⟨vb,rfl,hvo,hvr,_⟩
  ·cases e
  have hvg:vb ≠ g:=by
   rintro rfl;have:=HGL.out;have:=HV.out;rcases hvo with e | e
   ·exact (qP.out _ e).2 rfl
   omega
  have q2:=df hvr 2 (.pointer (dA (d+1) x'.2.2)) rfl;have q3:=ae q2 (HT3.out.block vb (block_lt_of_cell q2) (by simpa using hvg));obtain ⟨l',hl'⟩:=wE.out.new x' (by simp);have htr:=HK3.out.1 x' (by simp);obtain ⟨hx1,hxw⟩:=Wp wE.out;have hits:its x'.2.2=l':=by unfold its; rw [hl']; rfl
  obtain ⟨_,acu⟩:=htr;rw [hl'] at acu;obtain ⟨gx,ox,cx,htw,_,hIS,_⟩:=acu;have xJ:=hid (YA d (pK x'.2.2) gx ox l'.length cx _ l' w3 htw hIS (by rw [← hits]; exact am2 hxw.1 hxw.2));have hiz:=bT vb 0 1 1 0 (by omega);simp only [Nat.zero_mul,Nat.add_zero] at hiz;have HX:=hid (And.intro hits hx1);have kp:dA (d+1) x'.2.2=some ⟨pK x'.2.2,0,none⟩:=rfl;rw [kp] at q3;clear h1 hvo hvr hvg q2 hl' hx1 hxw hits htw hIS kp;go_upto_region 6 with fail
  obtain ⟨Z,hZ⟩:∃ Z,jr (d == 0) l'=Z:=⟨_,rfl⟩
  rw [hZ] at xJ;have HZ:=hid hZ;clear hZ;by_cases hz:Z<128
  ·rw [decide_eq_true hz] at xJ
   have bn:=hid hz;clear hz;go_wp2_with fail;refine xJ.out.mono ?_;rintro e w5 ⟨rfl,hb5⟩;have gp:=hid hb5;have hne:w.heap.size ∉ [g]:=by have:=HGL.out; simp only [List.mem_singleton]; omega
   have s0:=ae (ae (ae Vt.out.1 (HB2.out.block _ (block_lt_of_cell Vt.out.1))) (HT3.out.block _ (Nat.lt_of_lt_of_le (block_lt_of_cell Vt.out.1) HB2.out.size) hne)) (hb5.block _ (Nat.lt_of_lt_of_le (block_lt_of_cell Vt.out.1) (Nat.le_trans HB2.out.size HT3.out.size)));have s1:=ae (ae (ae Vt.out.2 (HB2.out.block _ (block_lt_of_cell Vt.out.2))) (HT3.out.block _ (Nat.lt_of_lt_of_le (block_lt_of_cell Vt.out.2) HB2.out.size) hne)) (hb5.block _ (Nat.lt_of_lt_of_le (block_lt_of_cell Vt.out.2) (Nat.le_trans HB2.out.size HT3.out.size)));have HJJ:=hid (HJ.out w5 (fun k=>(ok k∨w.heap.size≤k)∧k<w3.heap.size∧k ≠ g) x' (HK3.out.2.trans (Touch.of_below hb5)) (vO.out.below hb5) (fun y hy=>(HK3.out.1 y hy).keep (fun k hk=>hb5.block k hk.2.1)) (fun k hk=>⟨Nat.lt_of_lt_of_le hk.2.1 hb5.size,hk.2.2⟩) wE.out (by rw [HX.out.1,HZ.out]; exact bn.out));have e3:(a++x'::b).length=m3:=HM3.out;rw [e3] at HJJ;have IB:=hid (HK3.out.2.trans (Touch.of_below (l:=[g]) hb5));clear e3 hne hb5 HJ;go_wp2_with fail;refine HJJ.out.mono ?_;rintro e w6 ⟨N,rfl,hN,hO6,hK6,Yk⟩;obtain ⟨m6,hm6⟩:∃ m,N.length=m:=⟨_,rfl⟩
   rw [hm6];have jv:=hid (show zN LQ ok d g cc c f s L w (.returned (.tuple #[.slice (some ⟨g,0,none⟩) m6 cc,.int .i64 0])) w6 from .inr ⟨by rw [YI.out]; exact YL.out,N,by rw [hm6],hN,hO6,fun y hy=>(hK6 y hy).more (fun _ _ h=>h) (fun k hk=>by
    have:=IB.out.size;rcases hk with e | e
    ·exact e.1
    exact .inr (by omega)),IB.out.trans Yk⟩)
   clear hN hO6 hK6 Yk hm6 s0 s1;go_wp2_with fail;go_ret2;exact jv.out
  rw [decide_eq_false hz] at xJ;have bn:=hid hz;clear hz;go_wp2_with fail;refine xJ.out.mono ?_;rintro e w5 ⟨rfl,hb5⟩;have jv:=hid (show zN LQ ok d g cc c f s L w (.returned (.tuple #[.slice (some ⟨g,0,none⟩) m3 cc,.int .i64 0])) w5 from .inr ⟨by rw [YI.out]; exact YL.out,a++([x']++b),by rw [HM3.out],PX.out [x'] wE.out (fun y e=>by
   injection e with e _;subst e;rw [HX.out.1,HZ.out];have:=bn.out;omega),vO.out.below hb5,fun y hy=>((HK3.out.1 y hy).keep (fun k hk=>hb5.block k hk.2.1)).more (fun _ _ h=>h) (fun k hk=>hk.1),HK3.out.2.trans (Touch.of_below hb5)⟩)
  clear hb5;go_wp2_with fail;go_ret2;exact jv.out
 ·have jv:=hid (show zN LQ ok d g cc c f s L w (.returned (.tuple #[.slice (some ⟨g,0,none⟩) m3 cc,.int .i64 0])) w3 from .inr ⟨by rw [YI.out]; exact YL.out,a++(S++b),by rw [HM3.out],PX.out S wE.out (fun y e=>by rw [e] at h1; exact absurd rfl h1),vO.out,fun y hy=>(HK3.out.1 y hy).more (fun _ _ h=>h) (fun k hk=>hk.1),HK3.out.2⟩)
  obtain ⟨u,hu⟩:∃ u,S.length=u:=⟨_,rfl⟩
  rw [hu] at h1 ⊢;have h1I:¬ ((u:Int)=1):=by omega
  clear hu h1;go_wp2_with fail;go_ret2;exact jv.out
def afN (c:Cg)(n:Nat)(caps:Array Value)(w:World):Prop:=∀ (W:World) (g cc:Nat) (L:Its 0) (f t:ByteArray),Below w.heap.size w W→OB W g cc 0 L→L.length+1≤cc→cc≤1001→gQ L f t→LV f t c.key →
 Calls Tryz.prog n (#[.slice (some ⟨g,0,none⟩) L.length cc]++caps) W fun e W'=>Gm c W g cc L f t e W'
theorem afN.below {c:Cg}{n:Nat}{caps:Array Value}{w w':World}(h:afN c n caps w)(q:Below w.heap.size w w'):afN c n caps w':=fun W g cc L f t hW=>h W g cc L f t (aJ q hW)
theorem jQ.more {LQ:ay→az→Prop}{w:World}{ok ok':Nat→Prop}{d:Nat}{va:bO}{vc:Nat}{S:Its (d+1)}(h:jQ LQ w ok d va vc S)(q:∀ k,ok k→ok' k):jQ LQ w ok' d va vc S :=
 ⟨h.row.imp id (fun ⟨vb,h1,h2,h3⟩=>⟨vb,h1,q _ h2,h3⟩),fun x hx=>(h.kids x hx).more (fun _ _ h=>h) q⟩
theorem acv {d:Nat}{c:Cg}{fr f t:ByteArray}{L M:Its d}{S:Its (d+1)}(h:Alt d c fr f t L S)(e:bP d L M):Alt d c fr f t M S :=
 ⟨h.st,h.nil,by rw [h.cont,oU e],by rw [← kQ e]; exact h.jl,h.new⟩
def rW (LQ:ay→az→Prop)(t P:Nat)(rt:Value)(c:Cg)(n:Nat)(caps:Array Value)(d:Nat):Prop:=∀ (T:Kd (d+1)) (ok:Nat→Prop) (fr v f s:ByteArray) (w:World),w.heap[t]? = some (.cells #[.pointer (some ⟨P,0,none⟩),rt] 94 (0,0))→RD LQ w P→TR LQ w ok (d+1) T→(∀ k,ok k→k<w.heap.size)→l7 d T f s→LV f s c.key→bf d (its T)+4 * d+10≤1000000→afN c n caps w →
 Calls Tryz.prog 69 #[.pointer (some ⟨t,0,none⟩),.agg #[.string fr,.string v,.pointer (dA (d+1) T)],.agg #[.string f,.string s],.string c.key,.func (.func n) #[] caps] w fun e w'=>mQ LQ ok d c fr f s (its T) w e w'
theorem zO {LQ:ay→az→Prop}{ok:Nat→Prop}{g cc m:Nat}{c:Cg}{fr f s:ByteArray}{L L':Its 0}{w W:World}(hg:w.heap.size≤g)(hL:gQ L' f s)(hc:cont 0 L'=c.app (cont 0 L))(hz:jr true L'≤690)(hO:OB W g cc 0 L')(hb:Below w.heap.size w W)(hm:L'.length=m)(he:c.err (cont 0 L)=0) :
 Calls Tryz.prog 91 #[.string fr,.slice (some ⟨g,0,none⟩) m cc,.bool true] W fun e w'=>∃ (va:bO) (S:Its 1),e = .returned (.slice va S.length S.length)∧mQ LQ ok 0 c fr f s L w (.returned (.tuple #[.slice va S.length S.length,.int .i64 0])) w':=by
 subst hm
 have hL':lX 0 L' f s:=hL
 refine (uh LQ (fun _=>False) 0 g cc fr L' W hO (fun _ _=>trivial) (fun _ h=>h.elim) (Wl hL' (fun h=>absurd rfl h) hz) (by rw [Bo]; omega) hO.cap (Bv hL' (fun h=>absurd rfl h))).mono ?_
 rintro e w' ⟨va,S,rfl,hp,hs,ht,hn⟩
 have hq:∀ k,(False∨k=g∨W.heap.size≤k)→ok k∨w.heap.size≤k:=fun k hk=>by
  have:=hb.size;rcases hk with e | e | e
  ·exact e.elim
  ·right; omega
  right; omega
 exact ⟨va,S,rfl,.inr ⟨he,va,S,rfl,acd hp hL hc hz,hs.more hq,fun b e=>⟨Nat.le_trans hb.size (hn b e).1,fun x hx=>((hn b e).2 x hx).more (fun _ _ h=>h) (fun k hk=>⟨hq k hk.1,hk.2⟩)⟩⟩,bC hb ht hg⟩
theorem afO {LQ:ay→az→Prop}{ok:Nat→Prop}{d g cc m:Nat}{c:Cg}{fr f s:ByteArray}{L M N:Its (d+1)}{w w1 W:World}(hg:w.heap.size≤g)(hg1:g<w1.heap.size)(hok:∀ k,ok k→k<w.heap.size)(hb1:Below w.heap.size w w1)(e:bP (d+1) L M)(hN:Gn d c f s L N)(hF:bf (d+1) L+4 * (d+1)+10≤1000000)(hO:OB W g cc (d+1) N)(hk:∀ x ∈ N,TR LQ W (fun k=>((ok k∨w.heap.size≤k∧k ≠ g)∧k<w1.heap.size)∨w1.heap.size≤k) (d+1) x.2.2)(ht:Touch [g] w1 W)(hm:N.length=m)(he:c.err (cont (d+1) M)=0) :
 Calls Tryz.prog 91 #[.string fr,.slice (some ⟨g,0,none⟩) m cc,.bool false] W fun e w'=>∃ (va:bO) (S:Its (d+2)),e = .returned (.slice va S.length S.length)∧mQ LQ ok (d+1) c fr f s M w (.returned (.tuple #[.slice va S.length S.length,.int .i64 0])) w':=by
 subst hm
 have hb:Below w.heap.size w W:=bC hb1 ht hg
 have hfr:=hN.jl
 refine (uh LQ (fun k=>(((ok k∨w.heap.size≤k∧k ≠ g)∧k<w1.heap.size)∨w1.heap.size≤k)∧k<W.heap.size) (d+1) g cc fr N W hO (fun x hx=>(hk x hx).bound) (fun k hk=>⟨hk.2, ?_⟩) (Wl hN.wf (fun _=>hN.keys) hN.size) (by omega) hO.cap (Bv hN.wf (fun _=>hN.keys))).mono ?_
 ·rcases hk.1 with ⟨e | e,_⟩ | e
  ·have:=hok k e; omega
  ·exact e.2
  omega
 ·rintro e1 w' ⟨va,S,rfl,hp,hs,ht',hn⟩
  suffices hq:∀ k,((((ok k∨w.heap.size≤k∧k ≠ g)∧k<w1.heap.size)∨w1.heap.size≤k)∧k<W.heap.size∨k=g∨W.heap.size≤k)→ok k∨w.heap.size≤k by
   exact ⟨va,S,rfl,.inr ⟨he,va,S,rfl,acv (Us hp hN) e,hs.more hq,fun b e=>⟨Nat.le_trans hb.size (hn b e).1,fun x hx=>((hn b e).2 x hx).more (fun _ _ h=>h) (fun k hk=>⟨hq k hk.1,hk.2⟩)⟩⟩,bC hb ht' hg⟩
  intro k hk;have:=hb.size;have:=hb1.size;rcases hk with ⟨⟨e | e,_⟩ | e,_⟩ | e | e
  ·exact .inl e
  ·right; exact e.1
  ·right; omega
  ·right; omega
  right; omega
theorem YM (LQ:ay→az→Prop)(t P:Nat)(rt:Value)(c:Cg)(bk bv:Nat):rW LQ t P rt c 51 #[.pointer (some ⟨bk,0,none⟩),.pointer (some ⟨bv,0,none⟩)] 0:=by
 intro T ok fr v f s w ht hr hT hok hw hs hF hdo;have Ea:=hid (fun (W:World) (hW:Below w.heap.size w W)=>pX LQ ok 0 t P true T rt f s W ((hW.block t (lt_of_block ht)).trans ht) (hr.below hW) (hT.below hok hW) (fun k hk=>Nat.lt_of_lt_of_le (hok k hk) hW.size) hw.2.1 rfl (fun A hA=>vU hw.1 hw.2.1 (MM hs) hA));have HW:=hid hw;have HS:=hid hs;have HD:=hid hdo;obtain ⟨E,hE⟩:∃ E,c.err (cont 0 (its T))=E:=⟨_,rfl⟩
 have HE:=hid hE;clear ht hr hT hok hw hs hF hdo hE;go_in;go_upto_region 1 with fail
 have HB0:=hid (aJ (aK w (.cells #[.string fr,.string v,.pointer (dA (0+1) T)] 129)) (aK _ (.cells #[.string f,.string s] 96)));have hn0:=ah w (.cells #[.string fr,.string v,.pointer (dA (0+1) T)] 129);have k0:=ae (cell_of_row (w.alloc (.cells #[.string fr,.string v,.pointer (dA (0+1) T)] 129)) w.heap.size 0 _ _ _ hn0) ((aK _ (.cells #[.string f,.string s] 96)).block w.heap.size (lt_of_block hn0));have Rl:=hid k0;clear hn0 k0;go_wp2_with fail;refine (Ea.out _ HB0.out).mono ?_;rintro e w1 ⟨g,cc,L,rfl,hg,hob,hcc,IL,hsm,htr,hb1⟩;have k1:=ae Rl.out (hb1.block _ (block_lt_of_cell Rl.out));have Ez:=hid k1;have HNG:=hid (show w.heap.size ∉ [g] by have h1:w.heap.size+1+1≤g:=(by simpa using hg); simp only [List.mem_singleton]; omega);have HB1:=hid (aJ HB0.out hb1);have HG:=hid (Nat.le_trans HB0.out.size hg);obtain rfl:L=its T:=hsm;have HDO:=hid (show Calls Tryz.prog 51 #[.slice (some ⟨g,0,none⟩) (its T).length cc,.pointer (some ⟨bk,0,none⟩),.pointer (some ⟨bv,0,none⟩)] w1 fun e W'=>Gm c w1 g cc (its T) f s e W' from HD.out w1 g cc (its T) f s HB1.out hob hcc IL HW.out.1 HS.out);obtain ⟨m,hm⟩:∃ m,(its T).length=m:=⟨_,rfl⟩
 rw [hm] at HDO ⊢;clear hg hob hcc IL htr hb1 hm Ea HD k1;go_wp2_with fail;refine HDO.out.mono ?_;rintro e w2 ⟨hq,ht2⟩;rw [HE.out] at hq;have HB2:=hid (bC HB1.out ht2 HG.out);have k2:=ae Ez.out (ht2.block _ (block_lt_of_cell Ez.out) (by exact HNG.out));clear ht2;rcases hq with ⟨hE0,rfl⟩ | ⟨hE0,L',rfl,hO',hL',hc',hl',hz'⟩
 ·go_wp2_with fail
  go_ret2;exact ⟨.inl ⟨by rw [HE.out]; exact hE0,by rw [HE.out]; rfl⟩,HB2.out⟩
 obtain ⟨m',hm'⟩:∃ m,L'.length=m:=⟨_,rfl⟩
 have jM:=hid (zO (LQ:=LQ) (ok:=ok) (fr:=fr) HG.out hL' hc' (by have:jr true (its T)≤512:=HW.out.2.1.size; omega) hO' HB2.out hm' (by rw [HE.out]; exact hE0));rw [hm'];clear hO' hL' hc' hl' hz' hm' hE0;go_wp2_with fail;refine jM.out.mono ?_;rintro e w3 ⟨va,S,rfl,hpost⟩;have HP:=hid hpost;clear hpost;go_wp2_with fail;go_ret2;exact HP.out
theorem YN (LQ:ay→az→Prop)(t P:Nat)(rt:Value)(c:Cg)(bk:Nat):rW LQ t P rt c 54 #[.pointer (some ⟨bk,0,none⟩)] 0:=by
 intro T ok fr v f s w ht hr hT hok hw hs hF hdo;have Ea:=hid (fun (W:World) (hW:Below w.heap.size w W)=>pX LQ ok 0 t P true T rt f s W ((hW.block t (lt_of_block ht)).trans ht) (hr.below hW) (hT.below hok hW) (fun k hk=>Nat.lt_of_lt_of_le (hok k hk) hW.size) hw.2.1 rfl (fun A hA=>vU hw.1 hw.2.1 (MM hs) hA));have HW:=hid hw;have HS:=hid hs;have HD:=hid hdo;obtain ⟨E,hE⟩:∃ E,c.err (cont 0 (its T))=E:=⟨_,rfl⟩
 have HE:=hid hE;clear ht hr hT hok hw hs hF hdo hE;go_in;go_upto_region 1 with fail
 have HB0:=hid (aJ (aK w (.cells #[.string fr,.string v,.pointer (dA (0+1) T)] 129)) (aK _ (.cells #[.string f,.string s] 96)));have hn0:=ah w (.cells #[.string fr,.string v,.pointer (dA (0+1) T)] 129);have k0:=ae (cell_of_row (w.alloc (.cells #[.string fr,.string v,.pointer (dA (0+1) T)] 129)) w.heap.size 0 _ _ _ hn0) ((aK _ (.cells #[.string f,.string s] 96)).block w.heap.size (lt_of_block hn0));have Rl:=hid k0;clear hn0 k0;go_wp2_with fail;refine (Ea.out _ HB0.out).mono ?_;rintro e w1 ⟨g,cc,L,rfl,hg,hob,hcc,IL,hsm,htr,hb1⟩;have k1:=ae Rl.out (hb1.block _ (block_lt_of_cell Rl.out));have Ez:=hid k1;have HNG:=hid (show w.heap.size ∉ [g] by have h1:w.heap.size+1+1≤g:=(by simpa using hg); simp only [List.mem_singleton]; omega);have HB1:=hid (aJ HB0.out hb1);have HG:=hid (Nat.le_trans HB0.out.size hg);obtain rfl:L=its T:=hsm;have HDO:=hid (show Calls Tryz.prog 54 #[.slice (some ⟨g,0,none⟩) (its T).length cc,.pointer (some ⟨bk,0,none⟩)] w1 fun e W'=>Gm c w1 g cc (its T) f s e W' from HD.out w1 g cc (its T) f s HB1.out hob hcc IL HW.out.1 HS.out);obtain ⟨m,hm⟩:∃ m,(its T).length=m:=⟨_,rfl⟩
 rw [hm] at HDO ⊢;clear hg hob hcc IL htr hb1 hm Ea HD k1;go_wp2_with fail;refine HDO.out.mono ?_;rintro e w2 ⟨hq,ht2⟩;rw [HE.out] at hq;have HB2:=hid (bC HB1.out ht2 HG.out);have k2:=ae Ez.out (ht2.block _ (block_lt_of_cell Ez.out) (by exact HNG.out));clear ht2;rcases hq with ⟨hE0,rfl⟩ | ⟨hE0,L',rfl,hO',hL',hc',hl',hz'⟩
 ·go_wp2_with fail
  go_ret2;exact ⟨.inl ⟨by rw [HE.out]; exact hE0,by rw [HE.out]; rfl⟩,HB2.out⟩
 obtain ⟨m',hm'⟩:∃ m,L'.length=m:=⟨_,rfl⟩
 have jM:=hid (zO (LQ:=LQ) (ok:=ok) (fr:=fr) HG.out hL' hc' (by have:jr true (its T)≤512:=HW.out.2.1.size; omega) hO' HB2.out hm' (by rw [HE.out]; exact hE0));rw [hm'];clear hO' hL' hc' hl' hz' hm' hE0;go_wp2_with fail;refine jM.out.mono ?_;rintro e w3 ⟨va,S,rfl,hpost⟩;have HP:=hid hpost;clear hpost;go_wp2_with fail;go_ret2;exact HP.out
theorem acx {d:Nat}(L:Its (d+1))(x:bK (Kd (d+1)))(hx:x ∈ L):bf d (its x.2.2)≤bf (d+1) L:=by
 obtain ⟨i,hi,rfl⟩:=List.getElem_of_mem hx;have e:L=L.take i++L[i]::L.drop (i+1):=by rw [← List.drop_eq_getElem_cons hi,List.take_append_drop]
 have h1:=congrArg (bf (d+1)) e;rw [fD] at h1;have h2:bf (d+1) (L[i]::L.drop (i+1))=jl (d+1) L[i].2.2+bf (d+1) (L.drop (i+1)):=rfl;have h3:=nK L[i].2.2;omega
theorem MO (LQ:ay→az→Prop)(t P:Nat)(rt:Value)(c:Cg)(n:Nat)(caps:Array Value)(d:Nat)(ih:rW LQ t P rt c n caps d):rW LQ t P rt c n caps (d+1):=by
 intro T ok fr v f s w ht hr hT hok hw hs hF hdo;have Ea:=hid (fun (W:World) (hW:Below w.heap.size w W)=>pX LQ ok (d+1) t P false T rt f s W ((hW.block t (lt_of_block ht)).trans ht) (hr.below hW) (hT.below hok hW) (fun k hk=>Nat.lt_of_lt_of_le (hok k hk) hW.size) hw.2.1 rfl (fun A hA=>vU hw.1 hw.2.1 (MM hs) hA));have am5:=hid (fun (W:World) (hW:Below w.heap.size w W) (g cc:Nat) (L:Its (d+1)) (hg:w.heap.size≤g) (hob:OB W g cc (d+1) L) (hcc:L.length+1≤cc) (IL:cc≤1001) (hsm:bP (d+1) L (its T)) (htr:∀ y ∈ L,TR LQ W (fun k=>(ok k∨w.heap.size≤k∧k ≠ g)∧k<W.heap.size) (d+1) y.2.2) =>
  MN LQ (fun k=>(ok k∨w.heap.size≤k∧k ≠ g)∧k<W.heap.size) d t P g cc c (.func (.func n) #[] caps) rt L f s w W hW hg ht hr hob hcc IL htr (fun k hk=>⟨hk.2,by
   rcases hk.1 with e | e
   ·have:=hok k e; omega
   ·exact e.2⟩) (wR hsm.symm hw.1) (rP hsm.symm hw.2.1) (by rw [iM hsm]; exact hw.2.2 (by omega)) hs (by rw [kQ hsm]; omega)
   (fun x hx W' f' s' hW' hwx hsx=>ih x.2.2 _ x.1 x.2.1 f' s' W' (((aJ hW hW').block t (lt_of_block ht)).trans ht) (hr.below (aJ hW hW')) ((htr x hx).below (fun k hk=>hk.2) hW') (fun k hk=>Nat.lt_of_lt_of_le hk.2 hW'.size) hwx hsx (by
     have h1:=acx L x hx
     rw [kQ hsm] at h1
     omega) (hdo.below (aJ hW hW'))))
 have qP:=hid hok;have HF:=hid hF;obtain ⟨E,hE⟩:∃ E,c.err (cont (d+1) (its T))=E:=⟨_,rfl⟩
 have HE:=hid hE;clear ht hr hT hok hw hs hF hdo hE ih;go_in;go_upto_region 1 with fail
 have HB0:=hid (aJ (aK w (.cells #[.string fr,.string v,.pointer (dA (d+1+1) T)] 129)) (aK _ (.cells #[.string f,.string s] 96)));have hn0:=ah w (.cells #[.string fr,.string v,.pointer (dA (d+1+1) T)] 129);have k0:=ae (cell_of_row (w.alloc (.cells #[.string fr,.string v,.pointer (dA (d+1+1) T)] 129)) w.heap.size 0 _ _ _ hn0) ((aK _ (.cells #[.string f,.string s] 96)).block w.heap.size (lt_of_block hn0));have Rl:=hid k0;clear hn0 k0;go_wp2_with fail;refine (Ea.out _ HB0.out).mono ?_;rintro e w1 ⟨g,cc,L,rfl,hg,hob,hcc,IL,hsm,htr,hb1⟩;have k1:=ae Rl.out (hb1.block _ (block_lt_of_cell Rl.out));have Ez:=hid k1;have HNG:=hid (show w.heap.size ∉ [g] by have h1:w.heap.size+1+1≤g:=(by simpa using hg); simp only [List.mem_singleton]; omega);have HB1:=hid (aJ HB0.out hb1);have HG:=hid (Nat.le_trans HB0.out.size hg);have NF:=hid (am5.out w1 HB1.out g cc L HG.out hob hcc IL hsm (fun y hy=>(htr y hy).bound.more (fun _ _ h=>h) (fun k hk=>⟨hk.1.imp id (fun e=>⟨Nat.le_trans HB0.out.size e.1,e.2⟩),hk.2⟩)));have xJ:=hid hsm;have HGL:=hid hob.lt;obtain ⟨m,hm⟩:∃ m,L.length=m:=⟨_,rfl⟩
 rw [hm] at NF ⊢;have u0:=ae (cell_of_row ((w.alloc (.cells #[.string fr,.string v,.pointer (dA (d+1+1) T)] 129)).alloc (.cells #[.string f,.string s] 96)) (w.heap.size+1) 0 _ _ _ (by have:=ah (w.alloc (.cells #[.string fr,.string v,.pointer (dA (d+1+1) T)] 129)) (.cells #[.string f,.string s] 96); rwa [show (w.alloc (.cells #[.string fr,.string v,.pointer (dA (d+1+1) T)] 129)).heap.size=w.heap.size+1 by simp] at this)) (hb1.block _ (by simp));have u1:=ae (cell_of_row ((w.alloc (.cells #[.string fr,.string v,.pointer (dA (d+1+1) T)] 129)).alloc (.cells #[.string f,.string s] 96)) (w.heap.size+1) 1 _ _ _ (by have:=ah (w.alloc (.cells #[.string fr,.string v,.pointer (dA (d+1+1) T)] 129)) (.cells #[.string f,.string s] 96); rwa [show (w.alloc (.cells #[.string fr,.string v,.pointer (dA (d+1+1) T)] 129)).heap.size=w.heap.size+1 by simp] at this)) (hb1.block _ (by simp));clear hg hob hcc IL htr hb1 hm Ea am5 k1 hsm;go_wp2_with fail;refine NF.out.mono ?_;rintro e w2 hq;unfold zN at hq;rw [oU xJ.out,HE.out] at hq;rcases hq with ⟨hE0,rfl,ht2⟩ | ⟨hE0,N,rfl,hN,hO2,hk2,ht2⟩
 ·have HB2:=hid (bC HB1.out ht2 HG.out)
  clear ht2;go_wp2_with fail;go_ret2;exact ⟨.inl ⟨by rw [HE.out]; exact hE0,by rw [HE.out]; rfl⟩,HB2.out⟩
 have k2:=ae Ez.out (ht2.block _ (block_lt_of_cell Ez.out) (by exact HNG.out));obtain ⟨m',hm'⟩:∃ m,N.length=m:=⟨_,rfl⟩
 have jM:=hid (afO (fr:=fr) HG.out HGL.out qP.out HB1.out xJ.out hN (by rw [kQ xJ.out]; exact HF.out) hO2 hk2 ht2 hm' (by rw [HE.out]; exact hE0));rw [hm'];clear hN hO2 hk2 ht2 hm' hE0;go_wp2_with fail;refine jM.out.mono ?_;rintro e w3 ⟨va,S,rfl,hpost⟩;have HP:=hid hpost;clear hpost;go_wp2_with fail;go_ret2;exact HP.out
theorem Bz (LQ:ay→az→Prop)(t P:Nat)(rt:Value)(c:Cg)(n:Nat)(caps:Array Value)(h:rW LQ t P rt c n caps 0):∀ d,rW LQ t P rt c n caps d
 | 0=>h
 | d+1=>MO LQ t P rt c n caps d (Bz LQ t P rt c n caps h d)
def PY (c:Cg)(W:World)(e:Ending)(W':World):Prop :=
 (c.err [] ≠ 0∧e = .returned (.tuple #[.slice none 0 0,.int .i64 (c.err [])])∨c.err []=0∧∃ g cc,∃ L':Its 0,e = .returned (.tuple #[.slice (some ⟨g,0,none⟩) L'.length cc,.int .i64 0])∧W.heap.size≤g∧OB W' g cc 0 L'∧gQ L' aY aY∧cont 0 L'=c.app []∧jr true L'≤690)∧Below W.heap.size W W'
theorem is_nil (W:World)(d:Nat):IS W none 0 d ([]:Its d):=⟨rfl,fun i x hx=>by simp at hx⟩
theorem afQ (k v:ByteArray)(bk bv:Nat)(W:World)(hk:W.cell? ⟨bk,0,none⟩=some (.string k))(hv:W.cell? ⟨bv,0,none⟩=some (.string v))(hks:1≤k.size∧k.size≤32)(hvs:v.size≤96) :
 Calls Tryz.prog 51 #[.slice none 0 0,.pointer (some ⟨bk,0,none⟩),.pointer (some ⟨bv,0,none⟩)] W fun e W'=>PY (.put k v) W e W':=by
 have HF:=hid (show Calls Tryz.prog 52 #[.slice none 0 0,.string k] W fun e w'=>e = .returned (.tuple #[.int .i64 0,.bool false])∧Below W.heap.size W w' from pR 0 none 0 0 [] k W (is_nil W 0) (by decide) List.Pairwise.nil)
 have HP:=hid (And.intro hks hvs)
 clear hks hvs
 go_in
 go_wp2_with fail
 refine HF.out.mono ?_
 rintro e w1 ⟨rfl,hb1⟩
 have HB1:=hid hb1
 have k1:=ae hk (hb1.block _ (block_lt_of_cell hk))
 have v1:=ae hv (hb1.block _ (block_lt_of_cell hv))
 clear hb1 hk hv
 have hbk:=FY k v
 have hli:=fun (u v p:Value) (W:World)=>FV u v p W
 go_wp2_with fail
 refine (MH 0 w1.heap.size (show bK (Kd 0) from (k,v,())) _ (ah w1 _)).mono ?_
 rintro e w2 ⟨g,cc,rfl,hg,ho2,hb2⟩
 have HO2:=hid ho2
 have HG:=hid hg
 have HB2:=hid hb2
 clear ho2 hg hb2
 go_wp2_with fail
 go_ret2
 obtain ⟨⟨p1,p2⟩,p3⟩:=HP.out
 have hb:=aJ HB1.out (aK w1 (.cells #[.string k,.string v,.pointer none] 129))
 refine ⟨.inr ⟨rfl,g,cc, [(show bK (Kd 0) from (k,v,()))],rfl,Nat.le_trans hb.size HG.out,HO2.out,⟨List.pairwise_singleton _ _, ?_, ?_, ?_⟩,rfl, ?_⟩,aJ hb HB2.out⟩
 ·intro x hx; rw [List.mem_singleton.1 hx]; exact ⟨oh _,.inl rfl⟩
 ·intro x hx; rw [List.mem_singleton.1 hx]; exact ⟨p1,p2⟩
 ·intro x hx; rw [List.mem_singleton.1 hx]; exact p3
 ·show 2+(1+k.size+1+v.size)+0≤690; omega
theorem afR (k:ByteArray)(bk:Nat)(W:World)(hk:W.cell? ⟨bk,0,none⟩=some (.string k)) :
 Calls Tryz.prog 54 #[.slice none 0 0,.pointer (some ⟨bk,0,none⟩)] W fun e W'=>PY (.del k) W e W':=by
 have HF:=hid (show Calls Tryz.prog 52 #[.slice none 0 0,.string k] W fun e w'=>e = .returned (.tuple #[.int .i64 0,.bool false])∧Below W.heap.size W w' from pR 0 none 0 0 [] k W (is_nil W 0) (by decide) List.Pairwise.nil)
 go_in
 go_wp2_with fail
 refine HF.out.mono ?_
 rintro e w1 ⟨rfl,hb1⟩
 have HB1:=hid hb1
 clear hb1 hk
 go_wp2_with fail
 go_ret2
 exact ⟨.inl ⟨by show (if vN k []=true then (0:Int) else 8) ≠ 0; rw [show vN k []=false from rfl]; decide,rfl⟩,HB1.out⟩
def ahh (c:Cg)(n:Nat)(caps:Array Value)(w:World):Prop:=∀ (W:World),Below w.heap.size w W→Calls Tryz.prog n (#[.slice none 0 0]++caps) W fun e W'=>PY c W e W'
theorem IM (LQ:ay→az→Prop)(ok:Nat→Prop)(t:Value)(c:Cg)(bk bv:Nat)(fr v key:ByteArray)(w:World)(hdo:ahh c 51 #[.pointer (some ⟨bk,0,none⟩),.pointer (some ⟨bv,0,none⟩)] w) :
 Calls Tryz.prog 69 #[t,.agg #[.string fr,.string v,.pointer none],.agg #[.string aY,.string aY],.string key,.func (.func 51) #[] #[.pointer (some ⟨bk,0,none⟩),.pointer (some ⟨bv,0,none⟩)]] w fun e w'=>mQ LQ ok 0 c fr aY aY ([]:Its 0) w e w':=by
 have Ea:=hid (fun W=>Gf t aY aY W)
 have HD:=hid hdo
 obtain ⟨E,hE⟩:∃ E,c.err []=E:=⟨_,rfl⟩
 have HE:=hid hE
 clear hdo hE
 go_in
 go_upto_region 1 with fail
 have HB0:=hid (aJ (aK w (.cells #[.string fr,.string v,.pointer none] 129)) (aK _ (.cells #[.string aY,.string aY] 96)))
 have hn0:=ah w (.cells #[.string fr,.string v,.pointer none] 129)
 have k0:=ae (cell_of_row (w.alloc (.cells #[.string fr,.string v,.pointer none] 129)) w.heap.size 0 _ _ _ hn0) ((aK _ (.cells #[.string aY,.string aY] 96)).block w.heap.size (lt_of_block hn0))
 have Rl:=hid k0
 clear hn0 k0
 go_wp2_with fail
 refine (Ea.out _).mono ?_
 rintro e w1 ⟨rfl,hb1⟩
 have Ez:=hid (ae Rl.out (hb1.block _ (block_lt_of_cell Rl.out)))
 have HB1:=hid (aJ HB0.out hb1)
 have HDO:=hid (show Calls Tryz.prog 51 #[.slice none 0 0,.pointer (some ⟨bk,0,none⟩),.pointer (some ⟨bv,0,none⟩)] w1 fun e W'=>PY c w1 e W' from HD.out w1 HB1.out)
 clear hb1 Ea HD
 go_wp2_with fail
 refine HDO.out.mono ?_
 rintro e w2 ⟨hq,hb2⟩
 rw [HE.out] at hq
 have HB2:=hid (aJ HB1.out hb2)
 have k2:=ae Ez.out (hb2.block _ (block_lt_of_cell Ez.out))
 clear hb2
 rcases hq with ⟨hE0,rfl⟩ | ⟨hE0,g,cc,L',rfl,hg,hO',hL',hc',hz'⟩
 ·go_wp2_with fail
  go_ret2;exact ⟨.inl ⟨by show c.err [] ≠ 0; rw [HE.out]; exact hE0,by show _=Ending.returned (.tuple #[.slice none 0 0,.int .i64 (c.err [])]); rw [HE.out]; rfl⟩,HB2.out⟩
 ·obtain ⟨m',hm'⟩:∃ m,L'.length=m:=⟨_,rfl⟩
  have jM:=hid (zO (LQ:=LQ) (ok:=ok) (fr:=fr) (L:=([]:Its 0)) (Nat.le_trans HB1.out.size hg) hL' hc' hz' hO' HB2.out hm' (show c.err []=0 by rw [HE.out]; exact hE0));rw [hm'];clear hO' hL' hc' hz' hm' hE0 hg;go_wp2_with fail;refine jM.out.mono ?_;rintro e w3 ⟨va,S,rfl,hpost⟩;have HP:=hid hpost;clear hpost;go_wp2_with fail;go_ret2;exact HP.out
theorem IQ (LQ:ay→az→Prop)(ok:Nat→Prop)(t:Value)(c:Cg)(bk:Nat)(fr v key:ByteArray)(w:World)(hdo:ahh c 54 #[.pointer (some ⟨bk,0,none⟩)] w) :
 Calls Tryz.prog 69 #[t,.agg #[.string fr,.string v,.pointer none],.agg #[.string aY,.string aY],.string key,.func (.func 54) #[] #[.pointer (some ⟨bk,0,none⟩)]] w fun e w'=>mQ LQ ok 0 c fr aY aY ([]:Its 0) w e w':=by
 have Ea:=hid (fun W=>Gf t aY aY W)
 have HD:=hid hdo
 obtain ⟨E,hE⟩:∃ E,c.err []=E:=⟨_,rfl⟩
 have HE:=hid hE
 clear hdo hE
 go_in
 go_upto_region 1 with fail
 have HB0:=hid (aJ (aK w (.cells #[.string fr,.string v,.pointer none] 129)) (aK _ (.cells #[.string aY,.string aY] 96)))
 have hn0:=ah w (.cells #[.string fr,.string v,.pointer none] 129)
 have k0:=ae (cell_of_row (w.alloc (.cells #[.string fr,.string v,.pointer none] 129)) w.heap.size 0 _ _ _ hn0) ((aK _ (.cells #[.string aY,.string aY] 96)).block w.heap.size (lt_of_block hn0))
 have Rl:=hid k0
 clear hn0 k0
 go_wp2_with fail
 refine (Ea.out _).mono ?_
 rintro e w1 ⟨rfl,hb1⟩
 have Ez:=hid (ae Rl.out (hb1.block _ (block_lt_of_cell Rl.out)))
 have HB1:=hid (aJ HB0.out hb1)
 have HDO:=hid (show Calls Tryz.prog 54 #[.slice none 0 0,.pointer (some ⟨bk,0,none⟩)] w1 fun e W'=>PY c w1 e W' from HD.out w1 HB1.out)
 clear hb1 Ea HD
 go_wp2_with fail
 refine HDO.out.mono ?_
 rintro e w2 ⟨hq,hb2⟩
 rw [HE.out] at hq
 have HB2:=hid (aJ HB1.out hb2)
 have k2:=ae Ez.out (hb2.block _ (block_lt_of_cell Ez.out))
 clear hb2
 rcases hq with ⟨hE0,rfl⟩ | ⟨hE0,g,cc,L',rfl,hg,hO',hL',hc',hz'⟩
 ·go_wp2_with fail
  go_ret2;exact ⟨.inl ⟨by show c.err [] ≠ 0; rw [HE.out]; exact hE0,by show _=Ending.returned (.tuple #[.slice none 0 0,.int .i64 (c.err [])]); rw [HE.out]; rfl⟩,HB2.out⟩
 ·obtain ⟨m',hm'⟩:∃ m,L'.length=m:=⟨_,rfl⟩
  have jM:=hid (zO (LQ:=LQ) (ok:=ok) (fr:=fr) (L:=([]:Its 0)) (Nat.le_trans HB1.out.size hg) hL' hc' hz' hO' HB2.out hm' (show c.err []=0 by rw [HE.out]; exact hE0));rw [hm'];clear hO' hL' hc' hz' hm' hE0 hg;go_wp2_with fail;refine jM.out.mono ?_;rintro e w3 ⟨va,S,rfl,hpost⟩;have HP:=hid hpost;clear hpost;go_wp2_with fail;go_ret2;exact HP.out
abbrev Rt:=Option ((d:Nat)×Kd (d+1))
def Rt.ptr:Rt→bO
 | none=>none
 | some ⟨d,T⟩=>dA (d+1) T
def Rt.cn:Rt→List bH
 | none=>[]
 | some ⟨d,T⟩=>cont d (its T)
def Rt.fr:Rt→Nat
 | none=>0
 | some ⟨d,T⟩=>jl (d+1) T
def Rt.dp:Rt→Nat
 | none=>0
 | some ⟨d,_⟩=>d
def Rt.wf:Rt→Prop
 | none=>True
 | some ⟨d,T⟩=>l7 d T aY aY
def Rt.at_ (LQ:ay→az→Prop)(w:World)(ok:Nat→Prop):Rt→Prop
 | none=>True
 | some ⟨d,T⟩=>TR LQ w ok (d+1) T
theorem afS {w:World}{g d:Nat}{L:Its d}(h:w.heap[g]? = some (.cells (aH d L).toArray 129 (0,0))):OB w g L.length d L:=⟨⟨[],by rw [List.append_nil]; exact h,by rw [List.append_nil,bu]⟩⟩
theorem uj {d:Nat}{T:Kd (d+1)}{l:Its d}(h:kX T = .inr l):jl (d+1) T=1+bf d l:=by
 unfold jl;rw [h];rfl
def nP (LQ:ay→az→Prop)(ok:Nat→Prop)(B:Nat)(l:List bH)(m:Nat)(w:World)(e:Ending)(w':World):Prop :=
 ∃ R:Rt,e = .returned (.pointer R.ptr)∧R.wf∧R.at_ LQ w' (fun k=>ok k∨w.heap.size≤k)∧R.cn=l∧R.fr≤m∧Below B w w'
theorem P6 (LQ:ay→az→Prop)(ok:Nat→Prop)(B:Nat)(w:World) :
 Calls Tryz.prog 70 #[.slice none 0 0] w fun e w'=>nP LQ ok B [] 0 w e w':=by
 go_in
 go_wp2_with fail
 go_ret
 exact ⟨none,rfl,trivial,trivial,rfl,Nat.le_refl _,Below.refl _ _⟩
theorem afT {d:Nat}{T:Kd (d+2)}{y:bK (Kd (d+1))}(h:TP (d+1) T aY aY)(e:its T=[y]):l7 d y.2.2 aY aY:=by
 have h1:lX (d+1) (its T) aY aY:=h.1;rw [e] at h1;exact h1
theorem Uz (LQ:ay→az→Prop)(ok:Nat→Prop)(d B vb:Nat)(x:bK (Kd (d+1)))(l':Its d)(w:World)(hv:w.heap[vb]? = some (.cells (aH (d+1) [x]).toArray 129 (0,0)))(hT:TR LQ w ok (d+1) x.2.2)(hb:kX x.2.2 = .inr l')(hw:TP d x.2.2 aY aY) :
 Calls Tryz.prog 70 #[.slice (some ⟨vb,0,none⟩) 1 1] w fun e w'=>nP LQ ok B (cont d (its x.2.2)) (jl (d+1) x.2.2) w e w':=by
 have q2:=df hv 2 (.pointer (dA (d+1) x.2.2)) rfl
 have hits:its x.2.2=l':=by unfold its; rw [hb]; rfl
 have hT0:=hT
 obtain ⟨_,acu⟩:=hT
 rw [hb] at acu
 obtain ⟨gx,ox,cx,htw,_,hIS,YO⟩:=acu
 have HH:=hid (abS d (pK x.2.2) gx ox l'.length cx _ l' w htw hIS)
 have hiz:=bT vb 0 1 1 0 (by omega)
 simp only [Nat.zero_mul,Nat.add_zero] at hiz
 have kp:dA (d+1) x.2.2=some ⟨pK x.2.2,0,none⟩:=rfl
 rw [kp] at q2
 have HF:=hid (And.intro hT0 (And.intro hw (And.intro hits (And.intro hb YO))))
 clear hT0 hw hits hb YO htw hIS hv kp
 go_in
 go_wp2_with fail
 refine HH.out.mono ?_
 rintro e w1 ⟨hq,hw1⟩
 subst hw1
 obtain ⟨hT0,hw,hits,hb,YO⟩:=HF.out
 rcases hq with ⟨hd,y,hy,rfl⟩ | ⟨hnd,rfl⟩
 ·have hwy:=hw
  obtain ⟨d,rfl⟩:∃ e,d=e+1:=⟨d - 1,by omega⟩
  have htr:TR LQ w1 (fun k=>ok k∨w1.heap.size≤k) (d+1) y.2.2:=(YO y (by rw [hy]; simp)).more (fun _ _ h=>h) (fun k hk => .inl hk);have jv:=hid (show nP LQ ok B (cont (d+1) (its x.2.2)) (jl (d+1+1) x.2.2) w1 (.returned (.pointer (dA (d+1) y.2.2))) w1 from ⟨some ⟨d,y.2.2⟩,rfl,afT hw (by rw [hits,hy]),htr,by rw [hits,hy]; exact (fP (d:=d) y).symm,by
   rw [uj hb,hy]
   show jl (d+1) y.2.2≤1+(jl (d+1) y.2.2+0)
   omega,Below.refl _ _⟩)
  clear hT0 hw hits hb YO hy hwy hd htr;go_wp2_with fail;go_ret;exact jv.out
 ·have htr:TR LQ w1 (fun k=>ok k∨w1.heap.size≤k) (d+1) x.2.2:=hT0.more (fun _ _ h=>h) (fun k hk => .inl hk)
  have jv:=hid (show nP LQ ok B (cont d (its x.2.2)) (jl (d+1) x.2.2) w1 (.returned (.pointer (some ⟨pK x.2.2,0,none⟩))) w1 from ⟨some ⟨d,x.2.2⟩,rfl,⟨hw.1,hw.2,fun hd=>by
   have h1:(its x.2.2).length ≠ 0:=fun e=>hw.2.some (List.length_eq_zero_iff.1 e)
   rw [hits] at h1 ⊢;have:l'.length ≠ 1:=fun e=>hnd ⟨hd,e⟩
   omega⟩,htr,rfl,Nat.le_refl _,Below.refl _ _⟩)
  clear hT0 hw hits hb YO hnd htr;go_wp2_with fail;go_ret;exact jv.out
theorem UA (LQ:ay→az→Prop)(ok:Nat→Prop)(d B vb:Nat)(x y:bK (Kd (d+1)))(w:World)(hB:B≤w.heap.size)(hvB:B≤vb)(hv:w.heap[vb]? = some (.cells (aH (d+1) [x,y]).toArray 129 (0,0)))(hT:∀ z ∈ [x,y],TR LQ w (fun k=>ok k∧k ≠ vb) (d+1) z.2.2)(hok:∀ k,ok k→k<w.heap.size)(hvo:ok vb)(hS:tV d aY aY aY [x,y])(hF:bf (d+1) [x,y]≤1000000) :
 Calls Tryz.prog 70 #[.slice (some ⟨vb,0,none⟩) 2 2] w fun e w'=>nP LQ ok B (cont (d+1) [x,y]) (1+bf (d+1) [x,y]) w e w':=by
 have hob:OB w vb 2 (d+1) [x,y]:=afS hv
 have HG:=hid (wU LQ (fun k=>ok k∧k ≠ vb) (d+1) vb 2 0 2 2 [x,y] w hob hT (fun k hk=>⟨hok k hk.1,hk.2⟩) (by omega) (by simp) (by simp) hF)
 have HF:=hid (And.intro hT (And.intro hok (And.intro hS (And.intro hB (And.intro hvB hvo)))))
 simp only [Nat.zero_mul] at HG
 clear hT hok hS hob hv hB hvB hvo hF
 go_in
 go_wp2_with fail
 refine HG.out.mono ?_
 rintro e w1 ⟨b,rfl,hb,htw,hob,ht⟩
 obtain ⟨hT,hok,hS,hB,hvB,hvo⟩:=HF.out
 have hwf:l7 (d+1) (mkK b (.inr (hd0 (d+1) [x,y]))) aY aY:=by
  cases hS with
  | two _ _ e1 e2 e3 hx hs hy =>
    refine ⟨LZ (d:=d+1) (L:=[x,y]) (f:=aY) (t:=aY) ⟨hx,hs,hy⟩,L6 (d:=d+1) (L:=[x,y]) (by simp) ?_ (fun _ z hz=>?_),fun _=>by show 2≤(hd0 (d+1) [x,y]).length; rw [gU]; simp⟩
    ·show 2+44+((1+y.1.size+44)+0)≤512
     have:=hs.2.2;omega
    rcases List.mem_cons.1 hz with rfl | hz
    ·exact e2
    rw [List.mem_singleton.1 hz]; exact e3
 have htr:TR LQ w1 (fun k=>ok k∨w.heap.size≤k) (d+1+1) (mkK b (.inr (hd0 (d+1) [x,y]))):=by
  refine MB (i:=0) (k:=2) (c:=2) (c0:=2) (g:=vb) hob ?_ rfl ?_ (.inr hb) (.inl hvo) ?_ (fun z hz=>((hT z hz).keep (fun k hk=>ht.block k (hok k hk.1) (by simpa using hk.2))).more (fun _ _ h=>h) (fun k hk => .inl hk.1))
  ·exact List.take_of_length_le (by rw [List.take_zero,List.nil_append,List.drop_zero,List.drop_zero,gU]; simp)
  ·rw [List.take_zero,List.nil_append,List.drop_zero,gU]; simp
  exact htw
 have jv:=hid (show nP LQ ok B (cont (d+1) [x,y]) (1+bf (d+1) [x,y]) w (.returned (.pointer (some ⟨b,0,none⟩))) w1 from ⟨some ⟨d+1,mkK b (.inr (hd0 (d+1) [x,y]))⟩,rfl,hwf,htr,zD (d+1) [x,y],by
       show 1+bf (d+1) (hd0 (d+1) [x,y])≤_
       rw [rQ]
       exact Nat.le_refl _,ht.below hB (fun k hk=>by rw [List.mem_singleton.1 hk]; exact hvB)⟩)
 clear htr
 clear hT hok hS hwf hb htw hob ht hB hvB hvo
 go_wp2_with fail
 go_ret
 exact jv.out
end
end Go.Proofs.YtljjcbmkbmloaaaGreatDoor
