import Derived.Test.YtljjcbmkbmloaaaGreatDoorGTr23
import Derived.Test.YtljjcbmkbmloaaaGreatDoorGTr24
import Derived.Test.YtljjcbmkbmloaaaGreatDoorGTrA
namespace Go.Proofs.YtljjcbmkbmloaaaGreatDoor
set_option maxHeartbeats 3200000
set_option maxRecDepth 100000
set_option linter.unusedVariables false
section
open Go.ChangeShapes Go.WideShapes Go.ChangeAt Go.RowKit
def mF (LQ:ay→aC→Prop)(ok:Nat→Prop)(d:Nat)(c:Cg)(fr f t:ByteArray)(M:Its d)(w:World)(e:Ending)(w':World):Prop :=
 (c.err (cont d M) ≠ 0∧e = .returned (.tuple #[.slice none 0 0,.int .i64 (c.err (cont d M))]) ∨
   c.err (cont d M)=0∧∃ va S,e = .returned (.tuple #[.slice va S.length S.length,.int .i64 0])∧Alt d c fr f t M S∧jK LQ w' (fun k=>ok k∨w.heap.size≤k) d va S.length S∧∀ b,va=some b→w.heap.size≤b.block∧∀ x ∈ S,TR LQ w' (fun k=>(ok k∨w.heap.size≤k)∧k ≠ b.block) (d+1) x.2.2)∧Below w.heap.size w w'
def VQ (LQ:ay→aC→Prop)(ok:Nat→Prop)(d g cc:Nat)(c:Cg)(f t:ByteArray)(L:Its (d+1))(w:World)(e:Ending)(w':World):Prop :=
 ∃ N,e = .returned (.tuple #[.slice (some ⟨g,0,none⟩) N.length cc,.int .i64 0])∧FD d c f t L N∧OB w' g cc (d+1) N∧(∀ x ∈ N,TR LQ w' (fun k=>ok k∨w.heap.size≤k) (d+1) x.2.2)∧Touch [g] w w'
def zJ (LQ:ay→aC→Prop)(ok:Nat→Prop)(d g cc:Nat)(c:Cg)(f t:ByteArray)(L:Its (d+1))(w:World)(e:Ending)(w':World):Prop :=
 c.err (cont (d+1) L) ≠ 0∧e = .returned (.tuple #[.slice none 0 0,.int .i64 (c.err (cont (d+1) L))])∧Touch [g] w w' ∨
  c.err (cont (d+1) L)=0∧VQ LQ ok d g cc c f t L w e w'
theorem aca {d:Nat}{L:Its (d+1)}{f t:ByteArray}(h:lN (d+1) L f t)(ho:qW (d+1) L):L.Pairwise (fun x y=>lo x.1 y.1=true):=by
 match L,h,ho with
 | [],h,_=>exact List.Pairwise.nil
 | x::r,h,ho =>
   obtain ⟨h1,h2⟩:=jy (W:=mP d) r x f t h
   refine List.pairwise_cons.2 ⟨fun y hy=>?_,h2⟩
   rw [ho.head (by omega) x r rfl]
   rcases sG aY y.1 with e | e | e
   ·exact e
   ·exact absurd e.symm (h1 y hy).ne
   ·rw [l7] at e; cases e
theorem VR {d:Nat}{c:Cg}{fr f t:ByteArray}{M:Its d}{x:bM (Kd (d+1))}(h:Alt d c fr f t M [x]):x.1=fr∧Ti d x.2.2 f t:=by
 cases h.st (by simp) with
 | one _ e1 e2 hw=>exact ⟨e1,hw⟩
theorem acb (LQ:ay→aC→Prop)(ok:Nat→Prop)(d t P g cc:Nat)(c:Cg)(rt:Value)(a b:Its (d+1))(x x':bM (Kd (d+1)))(f s:ByteArray)(w:World)(ht:w.heap[t]? = some (.cells #[.pointer (some ⟨P,0,none⟩),rt] 94 (0,0)))(hr:RD LQ w P)(h:OB w g cc (d+1) (a++x'::b))(hc:(a++x::b).length+1≤cc)(hc2:cc≤1001)
 (hk:∀ y ∈ a++x'::b,TR LQ w ok (d+1) y.2.2) (hok:∀ k,ok k→k<w.heap.size∧k ≠ g) (hw:lN (d+1) (a++x::b) f s) (ho:qW (d+1) (a++x::b)) (h2:2≤(a++x::b).length) (hs:Ou f s c.key) (hF:bg (d+1) (a++x::b)+4 * (d+1)+10≤1000000)
 (hk1:lo c.key x.1=false) (hk2:∀ y r,b=y::r→lo c.key y.1=true) (hS:Alt d c x.1 (sU f (a++x::b) a.length) (Cb s (a++x::b) a.length) (its x.2.2) [x']) (hsm:jg (d == 0) (its x'.2.2)<128) :
 Calls Tryz.prog 125 #[.pointer (some ⟨t,0,none⟩),.slice (some ⟨g,0,none⟩) (a++x'::b).length cc,.int .i64 (a.length:Nat),.agg #[.string f,.string s]] w fun e w'=>VQ LQ ok d g cc c f s (a++x::b) w e w':=by
 have hcont:=OY hw hS (fun _=>hk1) hk2
 have Bg:=VO (a:=a) (b:=b) hS
 obtain ⟨hx1,hxw⟩:=VR hS
 have hne:=Ls hs
 have hall:∀ (a:Its (d+1)) (y:bM (Kd (d+1))) (b:Its (d+1)),lN (d+1) (a++y::b) f s→mP d y.2.2 (sU f (a++y::b) a.length) (Cb s (a++y::b) a.length):=fun a y b hw=>Ba (W:=mP d) (a++y::b) f s a.length y hw (by simp)
 rcases List.eq_nil_or_concat a with rfl | ⟨a',p,rfl⟩
 ·match b,h2 with
  | q::b,_ =>
    have al1:Ti d x'.2.2 (sU f ([]++x::q::b) ([]:Its (d+1)).length) q.1:=hxw
    have hq:=hall [x] q b hw
    have hpre:=Po (a:=[]) (p:=x) (q:=q) (p':=x') (q':=q) hw ho hne hx1 rfl al1 (by have:=hq.weak; exact this) (.inl hsm) (by
     have e:bg (d+1) ([]++([x']++q::b))=jc (d+1) x'.2.2+(jc (d+1) q.2.2+bg (d+1) b):=rfl
     rw [e] at Bg
     omega)
    refine (Pm LQ ok d t P g cc 0 x' q [] b rt f s w ht hr h rfl (by omega) (by simpa using hc) hc2 hk hok hpre.op hpre.oq hpre.cp hpre.cq hpre.m).mono ?_
    rintro e w' ⟨A,B,S,rfl,eA,eB,hp,hob,htr,htt⟩
    exact ⟨_,rfl,Cf (a:=[]) (p:=x) (q:=q) (p':=x') (q':=q) hw ho hx1 rfl al1 (by have:=hq.weak; exact this) (.inl hsm) eA eB hp hcont Bg,hob,htr,htt⟩
  | [],h2=>simp at h2
 ·have el:(a'.concat p)++x::b=a'++p::x::b:=by simp
  have el':(a'.concat p)++x'::b=a'++p::x'::b:=by simp
  have el2:(a'.concat p)++([x']++b)=a'++p::x'::b:=by simp
  have ln:(a'.concat p).length=a'.length+1:=by simp
  have hp:=hall a' p (x::b) (by rw [← el]; exact hw)
  rw [el,ln] at hxw
  rw [el2,el] at hcont Bg
  rw [el] at hw ho hc h2 hF ⊢
  rw [el'] at h hk ⊢
  rw [ln]
  have eT:Cb s (a'++p::x::b) a'.length=x.1:=by rw [wO]; rfl
  have eF:sU f (a'++p::x::b) (a'.length+1)=x.1:=by
   unfold sU
   rw [if_neg (by omega),List.getElem?_append_right (by omega),show a'.length+1 - a'.length=1 by omega]
   rfl
  rw [eF] at hxw
  have hpw:=hp.weak
  rw [eT] at hpw
  have hpre:=Po (a:=a') (p:=p) (q:=x) (p':=p) (q':=x') hw ho hne rfl hx1 hpw hxw (.inr hsm) (by
   have e:bg (d+1) (a'++p::x'::b)=bg (d+1) a'+(jc (d+1) p.2.2+(jc (d+1) x'.2.2+bg (d+1) b)):=by rw [fB]; rfl
   rw [e] at Bg
   omega)
  refine (Pm LQ ok d t P g cc (a'.length+1) p x' a' b rt f s w ht hr h (by omega) (by simp at hc; omega) (by simpa using hc) hc2 hk hok hpre.op hpre.oq hpre.cp hpre.cq hpre.m).mono ?_
  rintro e w' ⟨A,B,S,rfl,eA,eB,hp,hob,htr,htt⟩
  exact ⟨_,rfl,Cf (a:=a') (p:=p) (q:=x) (p':=p) (q':=x') hw ho rfl hx1 hpw hxw (.inr hsm) eA eB hp hcont Bg,hob,htr,htt⟩
end
section
open Lib (hid)
open Go.ChangeShapes Go.WideShapes Go.ChangeAt Go.RowKit
theorem acd {LQ:ay→aC→Prop}{ok:Nat→Prop}{d g cc vc:Nat}{va:bO}{a b S:Its (d+1)}{x:bM (Kd (d+1))}{w v3 w3 w4:World}(hL:OB w g cc (d+1) (a++x::b))(hk:∀ y ∈ a++x::b,TR LQ w ok (d+1) y.2.2)(hok:∀ k,ok k→k<w.heap.size∧k ≠ g)(hv:w.heap.size≤v3.heap.size)(h3:Below w.heap.size w w3)(hS:jK LQ w3 (fun k=>ok k∨v3.heap.size≤k) d va vc S)(h4:Touch [g] w3 w4) :
 (∀ y ∈ a++(S++b),TR LQ w4 (fun k=>(ok k∨w.heap.size≤k)∧k<w4.heap.size∧k ≠ g) (d+1) y.2.2)∧Touch [g] w w4:=by
 have hg:=hL.lt
 have hT:Touch [g] w w4:=(Touch.of_below h3).trans h4
 have old:∀ y ∈ a++x::b,TR LQ w4 (fun k=>(ok k∨w.heap.size≤k)∧k<w4.heap.size∧k ≠ g) (d+1) y.2.2:=fun y hy =>
  ((hk y hy).keep (fun k hk=>hT.block k (hok k hk).1 (by simpa using (hok k hk).2))).more (fun _ _ h=>h) (fun k hk=>⟨.inl hk,Nat.lt_of_lt_of_le (hok k hk).1 hT.size,(hok k hk).2⟩)
 refine ⟨fun y hy=>?_,hT⟩
 rcases List.mem_append.1 hy with hy | hy
 ·exact old y (by simp [hy])
 ·rcases List.mem_append.1 hy with hy | hy
  ·have hne:∀ k,(ok k∨v3.heap.size≤k)→k ≠ g:=fun k hk=>by
    rcases hk with e | e
    ·exact (hok k e).2
    ·omega
   refine ((hS.kids y hy).bound.keep (fun k hk=>h4.block k hk.2 (by simpa using hne k hk.1))).more (fun _ _ h=>h) (fun k hk=>⟨?_,Nat.lt_of_lt_of_le hk.2 h4.size,hne k hk.1⟩)
   rcases hk.1 with e | e
   ·exact .inl e
   ·exact .inr (by omega)
  ·exact old y (by simp [hy])
theorem ace {κ:Type}(a b:List κ)(x:κ):(a++x::b).take a.length=a∧(a++x::b).drop (a.length+1)=b:=by
 refine ⟨List.take_left, ?_⟩
 rw [← List.drop_drop,List.drop_left]
 rfl
theorem afs {d:Nat}{c:Cg}{fr f t:ByteArray}{M:Its d}{S:Its (d+1)}(h:Alt d c fr f t M S):S.length≤2:=by
 rcases Classical.em (S=[]) with rfl | hS
 ·simp
 ·cases h.st hS <;> simp
theorem al2 {d:Nat}{L:Its d}{f t:ByteArray}(h:lN d L f t)(o:qW d L):Sm L:=VP h (fun hd=>kJ h o hd) (Nat.le_trans o.size (by decide))
theorem Lt (LQ:ay→aC→Prop)(ok:Nat→Prop)(d t P g cc:Nat)(c:Cg)(dv:Value)(rt:Value)(L:Its (d+1))(f s:ByteArray)(w0 w:World)(hw0:Below w0.heap.size w0 w)(hg0:w0.heap.size≤g)(ht:w0.heap[t]? = some (.cells #[.pointer (some ⟨P,0,none⟩),rt] 94 (0,0)))(hr:RD LQ w0 P)(h:OB w g cc (d+1) L)(hc:L.length+1≤cc)(hc2:cc≤1001)
 (hk:∀ y ∈ L,TR LQ w ok (d+1) y.2.2) (hok:∀ k,ok k→k<w.heap.size∧k ≠ g) (hw:lN (d+1) L f s) (ho:qW (d+1) L) (h2:2≤L.length) (hs:Ou f s c.key) (hF:bg (d+1) L+4 * (d+1)+10≤1000000)
 (hrec:∀ x ∈ L,∀ (W:World) (f' s':ByteArray),Below w.heap.size w W→mP d x.2.2 f' s'→Ou f' s' c.key→Calls Tryz.prog 69 #[.pointer (some ⟨t,0,none⟩),.agg #[.string x.1,.string x.2.1,.pointer (di (d+1) x.2.2)],.agg #[.string f',.string s'],.string c.key,dv] W fun e w'=>mF LQ ok d c x.1 f' s' (its x.2.2) W e w') :
 Calls Tryz.prog 90 #[.pointer (some ⟨t,0,none⟩),.slice (some ⟨g,0,none⟩) L.length cc,.agg #[.string f,.string s],.string c.key,dv] w fun e w'=>zJ LQ ok d g cc c f s L w e w':=by
 have hrise:=aca hw ho
 obtain ⟨a,x,b,rfl,ha,hk1,hk2⟩:=Yg L c.key hrise ho.some (ho.head (by omega))
 have hcap:=ho.len
 have hlen:(a++x::b).length=a.length+1+b.length:=by simp; omega
 have acf:=hid (fun (W:World) (hW:Below w.heap.size w W)=>aeV (d+1) (some ⟨g,0,none⟩) (a++x::b).length cc (a++x::b) c.key W (h.is.below hW) (by omega) (List.pairwise_map.2 hrise))
 rw [← ha] at acf
 have HOF:=hid (fun (W:World) (hW:Below w.heap.size w W)=>oV (d+1) (some ⟨g,0,none⟩) (a++x::b).length cc a.length (a++x::b) f s W (h.is.below hW) (by omega) (by omega))
 rw [FO hw ho a.length (by omega)] at HOF
 have ae7:=hid (fun (W:World) (hW:Below w.heap.size w W)=>hrec x (by simp) W _ _ hW (Ba (W:=mP d) (a++x::b) f s a.length x hw (by simp)) (aih hs hk1 hk2))
 have Yh:=hid (show c.err (cont (d+1) (a++x::b))=c.err (cont d (its x.2.2)) by
  obtain ⟨ka,kb⟩:=FK hw (fun _=>hk1) hk2
  rw [dY,iF (d+1) x b,gW,Cg.aeO c _ _ _ ka kb])
 have c10:=(h.at3 a.length x (by simp)).k
 have c11:=(h.at3 a.length x (by simp)).v
 have c12:=(h.at3 a.length x (by simp)).p
 have hix:=bT g 0 (a++x::b).length cc a.length (by omega)
 simp only [Nat.zero_add] at hix
 obtain ⟨ht1,ht2⟩:=ace a b x
 have O8:=hid (fun (W:World) (hW:OB W g cc (d+1) (a++x::b)) (va:bO) (S:Its (d+1)) (hv:VS W g va S.length (d+1) S) (hS:S.length≤2)=>yA (d+1) g cc a.length (a.length+1) S.length va (a++x::b) S W hW hv (by omega) (by omega) hc (by omega) (by omega))
 rw [ht1,ht2] at O8
 have HJ:=hid (fun (W:World) (ok':Nat→Prop) (x':bM (Kd (d+1))) (hW:Touch [g] w W) (hO:OB W g cc (d+1) (a++x'::b)) (hK:∀ y ∈ a++x'::b,TR LQ W ok' (d+1) y.2.2) (hOK:∀ k,ok' k→k<W.heap.size∧k ≠ g)=>acb LQ ok' d t P g cc c rt a b x x' f s W (((bC hw0 hW hg0).block t (lt_of_block ht)).trans ht) (hr.below (bC hw0 hW hg0)) hO hc hc2 hK hOK hw ho h2 hs hF hk1 hk2)
 have Pq:=hid (fun (S:Its (d+1)) hS hsm=>TY (c:=c) (S:=S) hw ho h2 hS hsm (fun _=>hk1) hk2)
 have xw:=hid h
 have HK:=hid hk
 have pG:=hid hok
 have hnI:((a++x::b).length:Int)≤1000:=by omega
 generalize sU f (a++x::b) a.length=fx at *
 generalize Cb s (a++x::b) a.length=tx at *
 generalize hLL:a++x::b=L at *
 have HLL:=hid hLL
 obtain ⟨n,hn⟩:∃ n,L.length=n:=⟨_,rfl⟩
 rw [hn] at acf HOF O8 hix hnI hlen ⊢
 obtain ⟨l,hl⟩:∃ l,a.length=l:=⟨_,rfl⟩
 have HL:=hid hl
 rw [hl] at acf HOF O8 HJ c10 c11 c12 hix hlen
 have lI:(l:Int)<(n:Int):=by omega
 have l0:(0:Int)≤(l:Int):=by omega
 rw [show ((l+1:Nat):Int)=(l:Int)+1 by omega] at O8
 obtain ⟨E,hE⟩:∃ E,c.err (cont d (its x.2.2))=E:=⟨_,rfl⟩
 have HE:=hid hE
 rw [hE] at Yh
 clear hw0 hg0 ht hr h hc hc2 hk hok hw ho h2 hs hF hrec hrise ha hk1 hk2 hcap hlen ht1 ht2 hLL hn hl hE
 go_enter Tryz.func90,Tryz.ntmps90
 go_wp2_with fail
 refine (acf.out _ (aJ w _)).mono ?_
 rintro e w1 ⟨rfl,hb1⟩
 have HB1:=hid (aK (aJ w (.cells #[.string f,.string s] 96)) hb1)
 have b0:=cell_of_row (w.alloc (.cells #[.string f,.string s] 96)) w.heap.size 0 _ _ _ (ah w _)
 have b1:=cell_of_row (w.alloc (.cells #[.string f,.string s] 96)) w.heap.size 1 _ _ _ (ah w _)
 have s0:=ae b0 (hb1.block _ (block_lt_of_cell b0))
 have s1:=ae b1 (hb1.block _ (block_lt_of_cell b1))
 have kx0:=ae c10 (HB1.out.block _ (block_lt_of_cell c10))
 have kx1:=ae c11 (HB1.out.block _ (block_lt_of_cell c11))
 have kx2:=ae c12 (HB1.out.block _ (block_lt_of_cell c12))
 have O9:=hid (fun (W:World) (hW:Below w1.heap.size w1 W)=>HOF.out W (aK HB1.out hW))
 have agK:=hid (fun (W:World) (hW:Below w1.heap.size w1 W)=>ae7.out W (aK HB1.out hW))
 have HSP:=hid (And.intro s0 s1)
 clear b0 b1 hb1 c10 c11 c12 HOF ae7 acf
 go_upto_region 2 with fail
 try simp only [Act.put]
 refine wp_region_noPanic ?_
 refine wp_region_held_drew (S:=fun W=>Below w1.heap.size w1 W) (by kernel_rfl) (Below.refl _ w1).drew (fun hHeld=>?_)
 refine tR 0 19 (h:=tR 1 20 (h:=tR 2 21 (h:=tR 3 22 (h:=?_))))
 refine tK 4 23 (.agg #[.string x.1,.string x.2.1,.pointer (di (d+1) x.2.2)]) rfl (Or.inl ⟨by rfl, ?_⟩) ?_
 ·(intro w' hSw; have q0:=ae kx0 (hSw.block _ (block_lt_of_cell kx0)); have q1:=ae kx1 (hSw.block _ (block_lt_of_cell kx1)); have q2:=ae kx2 (hSw.block _ (block_lt_of_cell kx2)); go_simp; try with_reducible rfl)
 try simp only [Act.put,pZ]
 refine tK 5 24 (.agg #[.string f,.string s]) rfl (Or.inl ⟨by rfl, ?_⟩) ?_
 ·(intro w' hSw; have q0:=ae s0 (hSw.block _ (block_lt_of_cell s0)); have q1:=ae s1 (hSw.block _ (block_lt_of_cell s1)); go_simp; try with_reducible rfl)
 try simp only [Act.put,pZ]
 refine tR 6 25 (h:=tR 7 26 (h:=tR 9 28 (h:=tR 10 29 (h:=?_))))
 refine rD 8 rfl fun K hK=>?_
 go_simp
 go_at_call 58
 refine (O9.out w1.drew (Below.refl _ w1).drew).mono ?_
 rintro e v1 ⟨rfl,hbv⟩
 have zH:=hid (show Below w1.heap.size w1 v1 from (Below.refl w1.heap.size w1).drew.trans hbv)
 clear hbv
 go_wp2_with fail
 refine hK.out _ _ (zH.out) (fun hHeld=>?_)
 clear hK K
 try simp only [Act.put,pZ]
 refine rD 11 rfl fun K hK=>?_
 go_simp
 go_at_call 69
 refine (agK.out v1 zH.out).mono ?_
 rintro e w2 ⟨hq,hb2⟩
 rw [HE.out] at hq
 have HB2:=hid (show Below w1.heap.size w1 w2 from zH.out.trans (hb2.mono zH.out.size))
 clear hb2
 rcases hq with hq | hq
 ·obtain ⟨hE0,rfl⟩:=hq
  go_wp2_with fail
  refine hK.out _ _ HB2.out (fun hHeld=>?_)
  clear hK K
  try simp only [Act.put,pZ]
  refine tR 12 18 (h:=tR 13 31 (h:=tR 14 32 (h:=tR 15 13 (h:=tR 16 14 (h:=?_)))))
  refine wpAnyH_done (by decide +kernel) ?_ _
  refine NoPanic.normal ?_
  go_wp2_with fail
  go_ret2
  exact .inl ⟨by rw [Yh.out]; exact hE0,by rw [Yh.out]; rfl,Touch.of_below (aK HB1.out HB2.out)⟩
 obtain ⟨hE0,va,S,rfl,hal,hst,_⟩:=hq
 have HS:=hid (And.intro hE0 (And.intro hal hst))
 clear hE0 hal hst
 go_wp2_with fail
 refine hK.out _ _ HB2.out (fun hHeld=>?_)
 clear hK K
 try simp only [Act.put,pZ]
 refine tR 12 18 (h:=tR 13 31 (h:=tR 14 32 (h:=tR 15 13 (h:=tR 16 14 (h:=?_)))))
 refine wpAnyH_done (by decide +kernel) ?_ _
 refine NoPanic.normal ?_
 all_goals skip
 have aft:=hid (aK HB1.out HB2.out)
 have HV:=hid (Nat.le_trans HB1.out.size zH.out.size)
 obtain ⟨hE0,hal,hst⟩:=HS.out
 obtain ⟨m3,Zv⟩:∃ m,(a++(S++b)).length=m:=⟨_,rfl⟩
 have hgl:=xw.out.lt
 have HVS:=hid (FN hst (g:=g) (by rintro (e | e); exact (pG.out _ e).2 rfl; have:=HV.out; omega))
 have uz:=hid hal
 have HST:=hid hst
 have Yi:=hid hE0
 have HM3:=hid Zv
 have HGL:=hid hgl
 clear hE0 hal hst hgl HS s0 s1 kx0 kx1 kx2 O9 agK hix
 go_wp2_with fail
 refine (O8.out w2 (xw.out.below aft.out) va S HVS.out (afs uz.out)).mono ?_
 rw [Zv]
 rintro e w3 ⟨rfl,ho3,ht3⟩
 have zA:=hid ho3
 have HT3:=hid ht3
 have HK3:=hid (acd (vc:=S.length) (by rw [HLL.out]; exact xw.out) (by rw [HLL.out]; exact HK.out) pG.out HV.out aft.out HST.out ht3)
 clear ho3 ht3 Zv
 by_cases h1:S.length=1
 ·obtain ⟨x',rfl⟩:∃ x',S=[x']:=List.length_eq_one_iff.1 h1
  rcases HST.out.row with ⟨_,e⟩ | ⟨vb,rfl,hvo,hvr,_⟩
  ·cases e
  have hvg:vb ≠ g:=by
   rintro rfl
   have:=HGL.out
   have:=HV.out
   rcases hvo with e | e
   ·exact (pG.out _ e).2 rfl
   ·omega
  have q2:=cO hvr 2 (.pointer (di (d+1) x'.2.2)) rfl
  have q3:=ae q2 (HT3.out.block vb (block_lt_of_cell q2) (by simpa using hvg))
  obtain ⟨l',hl'⟩:=uz.out.new x' (by simp)
  have htr:=HK3.out.1 x' (by simp)
  obtain ⟨hx1,hxw⟩:=VR uz.out
  have hits:its x'.2.2=l':=by unfold its; rw [hl']; rfl
  obtain ⟨_,acg⟩:=htr
  rw [hl'] at acg
  obtain ⟨gx,ox,cx,htw,_,hIS,_⟩:=acg
  have qM:=hid (Ya d (oP x'.2.2) gx ox l'.length cx _ l' w3 htw hIS (by rw [← hits]; exact al2 hxw.1 hxw.2))
  have hiz:=bT vb 0 1 1 0 (by omega)
  simp only [Nat.zero_mul,Nat.add_zero] at hiz
  have HX:=hid (And.intro hits hx1)
  have kp:di (d+1) x'.2.2=some ⟨oP x'.2.2,0,none⟩:=rfl
  rw [kp] at q3
  clear h1 hvo hvr hvg q2 hl' hx1 hxw hits htw hIS kp
  go_upto_region 6 with fail
  obtain ⟨Z,hZ⟩:∃ Z,jg (d == 0) l'=Z:=⟨_,rfl⟩
  rw [hZ] at qM
  have HZ:=hid hZ
  clear hZ
  by_cases hz:Z<128
  ·rw [decide_eq_true hz] at qM
   have bz:=hid hz
   clear hz
   go_wp2_with fail
   refine qM.out.mono ?_
   rintro e w5 ⟨rfl,hb5⟩
   have fQ:=hid hb5
   have hne:w.heap.size ∉ [g]:=by have:=HGL.out; simp only [List.mem_singleton]; omega
   have s0:=ae (ae (ae HSP.out.1 (HB2.out.block _ (block_lt_of_cell HSP.out.1))) (HT3.out.block _ (Nat.lt_of_lt_of_le (block_lt_of_cell HSP.out.1) HB2.out.size) hne)) (hb5.block _ (Nat.lt_of_lt_of_le (block_lt_of_cell HSP.out.1) (Nat.le_trans HB2.out.size HT3.out.size)))
   have s1:=ae (ae (ae HSP.out.2 (HB2.out.block _ (block_lt_of_cell HSP.out.2))) (HT3.out.block _ (Nat.lt_of_lt_of_le (block_lt_of_cell HSP.out.2) HB2.out.size) hne)) (hb5.block _ (Nat.lt_of_lt_of_le (block_lt_of_cell HSP.out.2) (Nat.le_trans HB2.out.size HT3.out.size)))
   have HJJ:=hid (HJ.out w5 (fun k=>(ok k∨w.heap.size≤k)∧k<w3.heap.size∧k ≠ g) x' (HK3.out.2.trans (Touch.of_below hb5)) (zA.out.below hb5) (fun y hy=>(HK3.out.1 y hy).keep (fun k hk=>hb5.block k hk.2.1)) (fun k hk=>⟨Nat.lt_of_lt_of_le hk.2.1 hb5.size,hk.2.2⟩) uz.out (by rw [HX.out.1,HZ.out]; exact bz.out))
   have e3:(a++x'::b).length=m3:=HM3.out
   rw [e3] at HJJ
   have Hf:=hid (HK3.out.2.trans (Touch.of_below (l:=[g]) hb5))
   clear e3 hne hb5 HJ
   go_wp2_with fail
   refine HJJ.out.mono ?_
   rintro e w6 ⟨N,rfl,hN,hO6,hK6,QQ⟩
   obtain ⟨m6,hm6⟩:∃ m,N.length=m:=⟨_,rfl⟩
   rw [hm6]
   have jh:=hid (show zJ LQ ok d g cc c f s L w (.returned (.tuple #[.slice (some ⟨g,0,none⟩) m6 cc,.int .i64 0])) w6 from .inr ⟨by rw [Yh.out]; exact Yi.out,N,by rw [hm6],hN,hO6,fun y hy=>(hK6 y hy).more (fun _ _ h=>h) (fun k hk=>by
    have:=Hf.out.size
    rcases hk with e | e
    ·exact e.1
    ·exact .inr (by omega)),Hf.out.trans QQ⟩)
   clear hN hO6 hK6 QQ hm6 s0 s1
   go_wp2_with fail
   go_ret2
   exact jh.out
  ·rw [decide_eq_false hz] at qM
   have bz:=hid hz
   clear hz
   go_wp2_with fail
   refine qM.out.mono ?_
   rintro e w5 ⟨rfl,hb5⟩
   have jh:=hid (show zJ LQ ok d g cc c f s L w (.returned (.tuple #[.slice (some ⟨g,0,none⟩) m3 cc,.int .i64 0])) w5 from .inr ⟨by rw [Yh.out]; exact Yi.out,a++([x']++b),by rw [HM3.out],Pq.out [x'] uz.out (fun y e=>by
    injection e with e _
    subst e
    rw [HX.out.1,HZ.out]
    have:=bz.out
    omega),zA.out.below hb5,fun y hy=>((HK3.out.1 y hy).keep (fun k hk=>hb5.block k hk.2.1)).more (fun _ _ h=>h) (fun k hk=>hk.1),HK3.out.2.trans (Touch.of_below hb5)⟩)
   clear hb5
   go_wp2_with fail
   go_ret2
   exact jh.out
 ·have jh:=hid (show zJ LQ ok d g cc c f s L w (.returned (.tuple #[.slice (some ⟨g,0,none⟩) m3 cc,.int .i64 0])) w3 from .inr ⟨by rw [Yh.out]; exact Yi.out,a++(S++b),by rw [HM3.out],Pq.out S uz.out (fun y e=>by rw [e] at h1; exact absurd rfl h1),zA.out,fun y hy=>(HK3.out.1 y hy).more (fun _ _ h=>h) (fun k hk=>hk.1),HK3.out.2⟩)
  obtain ⟨u,hu⟩:∃ u,S.length=u:=⟨_,rfl⟩
  rw [hu] at h1 ⊢
  have h1I:¬ ((u:Int)=1):=by omega
  clear hu h1
  go_wp2_with fail
  go_ret2
  exact jh.out
def afu (c:Cg)(n:Nat)(caps:Array Value)(w:World):Prop:=∀ (W:World) (g cc:Nat) (L:Its 0) (f t:ByteArray),Below w.heap.size w W→OB W g cc 0 L→L.length+1≤cc→cc≤1001→iC L f t→Ou f t c.key →
 Calls Tryz.prog n (#[.slice (some ⟨g,0,none⟩) L.length cc]++caps) W fun e W'=>FC c W g cc L f t e W'
theorem afu.below {c:Cg}{n:Nat}{caps:Array Value}{w w':World}(h:afu c n caps w)(q:Below w.heap.size w w'):afu c n caps w':=fun W g cc L f t hW=>h W g cc L f t (aK q hW)
theorem jK.more {LQ:ay→aC→Prop}{w:World}{ok ok':Nat→Prop}{d:Nat}{va:bO}{vc:Nat}{S:Its (d+1)}(h:jK LQ w ok d va vc S)(q:∀ k,ok k→ok' k):jK LQ w ok' d va vc S :=
 ⟨h.row.imp id (fun ⟨vb,h1,h2,h3⟩=>⟨vb,h1,q _ h2,h3⟩),fun x hx=>(h.kids x hx).more (fun _ _ h=>h) q⟩
theorem ach {d:Nat}{c:Cg}{fr f t:ByteArray}{L M:Its d}{S:Its (d+1)}(h:Alt d c fr f t L S)(e:bP d L M):Alt d c fr f t M S :=
 ⟨h.st,h.nil,by rw [h.cont,oG e],by rw [← kM e]; exact h.jc,h.new⟩
def rC (LQ:ay→aC→Prop)(t P:Nat)(rt:Value)(c:Cg)(n:Nat)(caps:Array Value)(d:Nat):Prop:=∀ (T:Kd (d+1)) (ok:Nat→Prop) (fr v f s:ByteArray) (w:World),w.heap[t]? = some (.cells #[.pointer (some ⟨P,0,none⟩),rt] 94 (0,0))→RD LQ w P→TR LQ w ok (d+1) T→(∀ k,ok k→k<w.heap.size)→mP d T f s→Ou f s c.key→bg d (its T)+4 * d+10≤1000000→afu c n caps w →
 Calls Tryz.prog 69 #[.pointer (some ⟨t,0,none⟩),.agg #[.string fr,.string v,.pointer (di (d+1) T)],.agg #[.string f,.string s],.string c.key,.func (.func n) #[] caps] w fun e w'=>mF LQ ok d c fr f s (its T) w e w'
theorem zK {LQ:ay→aC→Prop}{ok:Nat→Prop}{g cc m:Nat}{c:Cg}{fr f s:ByteArray}{L L':Its 0}{w W:World}(hg:w.heap.size≤g)(hL:iC L' f s)(hc:cont 0 L'=c.app (cont 0 L))(hz:jg true L'≤690)(hO:OB W g cc 0 L')(hb:Below w.heap.size w W)(hm:L'.length=m)(he:c.err (cont 0 L)=0) :
 Calls Tryz.prog 91 #[.string fr,.slice (some ⟨g,0,none⟩) m cc,.bool true] W fun e w'=>∃ (va:bO) (S:Its 1),e = .returned (.slice va S.length S.length)∧mF LQ ok 0 c fr f s L w (.returned (.tuple #[.slice va S.length S.length,.int .i64 0])) w':=by
 subst hm
 have hL':lN 0 L' f s:=hL
 refine (tC LQ (fun _=>False) 0 g cc fr L' W hO (fun _ _=>trivial) (fun _ h=>h.elim) (VP hL' (fun h=>absurd rfl h) hz) (by rw [Be]; omega) hO.cap (Bh hL' (fun h=>absurd rfl h))).mono ?_
 rintro e w' ⟨va,S,rfl,hp,hs,ht,hn⟩
 have hq:∀ k,(False∨k=g∨W.heap.size≤k)→ok k∨w.heap.size≤k:=fun k hk=>by
  have:=hb.size
  rcases hk with e | e | e
  ·exact e.elim
  ·right; omega
  ·right; omega
 exact ⟨va,S,rfl,.inr ⟨he,va,S,rfl,abY hp hL hc hz,hs.more hq,fun b e=>⟨Nat.le_trans hb.size (hn b e).1,fun x hx=>((hn b e).2 x hx).more (fun _ _ h=>h) (fun k hk=>⟨hq k hk.1,hk.2⟩)⟩⟩,bC hb ht hg⟩
theorem afv {LQ:ay→aC→Prop}{ok:Nat→Prop}{d g cc m:Nat}{c:Cg}{fr f s:ByteArray}{L M N:Its (d+1)}{w w1 W:World}(hg:w.heap.size≤g)(hg1:g<w1.heap.size)(hok:∀ k,ok k→k<w.heap.size)(hb1:Below w.heap.size w w1)(e:bP (d+1) L M)(hN:FD d c f s L N)(hF:bg (d+1) L+4 * (d+1)+10≤1000000)(hO:OB W g cc (d+1) N)(hk:∀ x ∈ N,TR LQ W (fun k=>((ok k∨w.heap.size≤k∧k ≠ g)∧k<w1.heap.size)∨w1.heap.size≤k) (d+1) x.2.2)(ht:Touch [g] w1 W)(hm:N.length=m)(he:c.err (cont (d+1) M)=0) :
 Calls Tryz.prog 91 #[.string fr,.slice (some ⟨g,0,none⟩) m cc,.bool false] W fun e w'=>∃ (va:bO) (S:Its (d+2)),e = .returned (.slice va S.length S.length)∧mF LQ ok (d+1) c fr f s M w (.returned (.tuple #[.slice va S.length S.length,.int .i64 0])) w':=by
 subst hm
 have hb:Below w.heap.size w W:=bC hb1 ht hg
 have hfr:=hN.jc
 refine (tC LQ (fun k=>(((ok k∨w.heap.size≤k∧k ≠ g)∧k<w1.heap.size)∨w1.heap.size≤k)∧k<W.heap.size) (d+1) g cc fr N W hO (fun x hx=>(hk x hx).bound) (fun k hk=>⟨hk.2, ?_⟩) (VP hN.wf (fun _=>hN.keys) hN.size) (by omega) hO.cap (Bh hN.wf (fun _=>hN.keys))).mono ?_
 ·rcases hk.1 with ⟨e | e,_⟩ | e
  ·have:=hok k e; omega
  ·exact e.2
  ·omega
 ·rintro e1 w' ⟨va,S,rfl,hp,hs,ht',hn⟩
  suffices hq:∀ k,((((ok k∨w.heap.size≤k∧k ≠ g)∧k<w1.heap.size)∨w1.heap.size≤k)∧k<W.heap.size∨k=g∨W.heap.size≤k)→ok k∨w.heap.size≤k by
   exact ⟨va,S,rfl,.inr ⟨he,va,S,rfl,ach (TU hp hN) e,hs.more hq,fun b e=>⟨Nat.le_trans hb.size (hn b e).1,fun x hx=>((hn b e).2 x hx).more (fun _ _ h=>h) (fun k hk=>⟨hq k hk.1,hk.2⟩)⟩⟩,bC hb ht' hg⟩
  intro k hk
  have:=hb.size
  have:=hb1.size
  rcases hk with ⟨⟨e | e,_⟩ | e,_⟩ | e | e
  ·exact .inl e
  ·right; exact e.1
  ·right; omega
  ·right; omega
  ·right; omega
theorem Yj (LQ:ay→aC→Prop)(t P:Nat)(rt:Value)(c:Cg)(bk bv:Nat):rC LQ t P rt c 51 #[.pointer (some ⟨bk,0,none⟩),.pointer (some ⟨bv,0,none⟩)] 0:=by
 intro T ok fr v f s w ht hr hT hok hw hs hF hdo
 have Jn:=hid (fun (W:World) (hW:Below w.heap.size w W)=>o6 LQ ok 0 t P true T rt f s W ((hW.block t (lt_of_block ht)).trans ht) (hr.below hW) (hT.below hok hW) (fun k hk=>Nat.lt_of_lt_of_le (hok k hk) hW.size) hw.2.1 rfl (fun A hA=>vH hw.1 hw.2.1 (Ls hs) hA))
 have HW:=hid hw
 have HS:=hid hs
 have HD:=hid hdo
 obtain ⟨E,hE⟩:∃ E,c.err (cont 0 (its T))=E:=⟨_,rfl⟩
 have HE:=hid hE
 clear ht hr hT hok hw hs hF hdo hE
 go_enter Tryz.func69,Tryz.ntmps69
 go_upto_region 1 with fail
 have HB0:=hid (aK (aJ w (.cells #[.string fr,.string v,.pointer (di (0+1) T)] 129)) (aJ _ (.cells #[.string f,.string s] 96)))
 have hn0:=ah w (.cells #[.string fr,.string v,.pointer (di (0+1) T)] 129)
 have k0:=ae (cell_of_row (w.alloc (.cells #[.string fr,.string v,.pointer (di (0+1) T)] 129)) w.heap.size 0 _ _ _ hn0) ((aJ _ (.cells #[.string f,.string s] 96)).block w.heap.size (lt_of_block hn0))
 have QV:=hid k0
 clear hn0 k0
 go_wp2_with fail
 refine (Jn.out _ HB0.out).mono ?_
 rintro e w1 ⟨g,cc,L,rfl,hg,hob,hcc,Hr,hsm,htr,hb1⟩
 have k1:=ae QV.out (hb1.block _ (block_lt_of_cell QV.out))
 have D9:=hid k1
 have HNG:=hid (show w.heap.size ∉ [g] by have h1:w.heap.size+1+1≤g:=(by simpa using hg); simp only [List.mem_singleton]; omega)
 have HB1:=hid (aK HB0.out hb1)
 have HG:=hid (Nat.le_trans HB0.out.size hg)
 obtain rfl:L=its T:=hsm
 have HDO:=hid (show Calls Tryz.prog 51 #[.slice (some ⟨g,0,none⟩) (its T).length cc,.pointer (some ⟨bk,0,none⟩),.pointer (some ⟨bv,0,none⟩)] w1 fun e W'=>FC c w1 g cc (its T) f s e W' from HD.out w1 g cc (its T) f s HB1.out hob hcc Hr HW.out.1 HS.out)
 obtain ⟨m,hm⟩:∃ m,(its T).length=m:=⟨_,rfl⟩
 rw [hm] at HDO ⊢
 clear hg hob hcc Hr htr hb1 hm Jn HD k1
 go_wp2_with fail
 refine HDO.out.mono ?_
 rintro e w2 ⟨hq,ht2⟩
 rw [HE.out] at hq
 have HB2:=hid (bC HB1.out ht2 HG.out)
 have k2:=ae D9.out (ht2.block _ (block_lt_of_cell D9.out) (by exact HNG.out))
 clear ht2
 rcases hq with ⟨hE0,rfl⟩ | ⟨hE0,L',rfl,hO',hL',hc',hl',hz'⟩
 ·go_wp2_with fail
  go_ret2
  exact ⟨.inl ⟨by rw [HE.out]; exact hE0,by rw [HE.out]; rfl⟩,HB2.out⟩
 ·obtain ⟨m',hm'⟩:∃ m,L'.length=m:=⟨_,rfl⟩
  have ji:=hid (zK (LQ:=LQ) (ok:=ok) (fr:=fr) HG.out hL' hc' (by have:jg true (its T)≤512:=HW.out.2.1.size; omega) hO' HB2.out hm' (by rw [HE.out]; exact hE0))
  rw [hm']
  clear hO' hL' hc' hl' hz' hm' hE0
  go_wp2_with fail
  refine ji.out.mono ?_
  rintro e w3 ⟨va,S,rfl,hpost⟩
  have HP:=hid hpost
  clear hpost
  go_wp2_with fail
  go_ret2
  exact HP.out
theorem Yk (LQ:ay→aC→Prop)(t P:Nat)(rt:Value)(c:Cg)(bk:Nat):rC LQ t P rt c 54 #[.pointer (some ⟨bk,0,none⟩)] 0:=by
 intro T ok fr v f s w ht hr hT hok hw hs hF hdo
 have Jn:=hid (fun (W:World) (hW:Below w.heap.size w W)=>o6 LQ ok 0 t P true T rt f s W ((hW.block t (lt_of_block ht)).trans ht) (hr.below hW) (hT.below hok hW) (fun k hk=>Nat.lt_of_lt_of_le (hok k hk) hW.size) hw.2.1 rfl (fun A hA=>vH hw.1 hw.2.1 (Ls hs) hA))
 have HW:=hid hw
 have HS:=hid hs
 have HD:=hid hdo
 obtain ⟨E,hE⟩:∃ E,c.err (cont 0 (its T))=E:=⟨_,rfl⟩
 have HE:=hid hE
 clear ht hr hT hok hw hs hF hdo hE
 go_enter Tryz.func69,Tryz.ntmps69
 go_upto_region 1 with fail
 have HB0:=hid (aK (aJ w (.cells #[.string fr,.string v,.pointer (di (0+1) T)] 129)) (aJ _ (.cells #[.string f,.string s] 96)))
 have hn0:=ah w (.cells #[.string fr,.string v,.pointer (di (0+1) T)] 129)
 have k0:=ae (cell_of_row (w.alloc (.cells #[.string fr,.string v,.pointer (di (0+1) T)] 129)) w.heap.size 0 _ _ _ hn0) ((aJ _ (.cells #[.string f,.string s] 96)).block w.heap.size (lt_of_block hn0))
 have QV:=hid k0
 clear hn0 k0
 go_wp2_with fail
 refine (Jn.out _ HB0.out).mono ?_
 rintro e w1 ⟨g,cc,L,rfl,hg,hob,hcc,Hr,hsm,htr,hb1⟩
 have k1:=ae QV.out (hb1.block _ (block_lt_of_cell QV.out))
 have D9:=hid k1
 have HNG:=hid (show w.heap.size ∉ [g] by have h1:w.heap.size+1+1≤g:=(by simpa using hg); simp only [List.mem_singleton]; omega)
 have HB1:=hid (aK HB0.out hb1)
 have HG:=hid (Nat.le_trans HB0.out.size hg)
 obtain rfl:L=its T:=hsm
 have HDO:=hid (show Calls Tryz.prog 54 #[.slice (some ⟨g,0,none⟩) (its T).length cc,.pointer (some ⟨bk,0,none⟩)] w1 fun e W'=>FC c w1 g cc (its T) f s e W' from HD.out w1 g cc (its T) f s HB1.out hob hcc Hr HW.out.1 HS.out)
 obtain ⟨m,hm⟩:∃ m,(its T).length=m:=⟨_,rfl⟩
 rw [hm] at HDO ⊢
 clear hg hob hcc Hr htr hb1 hm Jn HD k1
 go_wp2_with fail
 refine HDO.out.mono ?_
 rintro e w2 ⟨hq,ht2⟩
 rw [HE.out] at hq
 have HB2:=hid (bC HB1.out ht2 HG.out)
 have k2:=ae D9.out (ht2.block _ (block_lt_of_cell D9.out) (by exact HNG.out))
 clear ht2
 rcases hq with ⟨hE0,rfl⟩ | ⟨hE0,L',rfl,hO',hL',hc',hl',hz'⟩
 ·go_wp2_with fail
  go_ret2
  exact ⟨.inl ⟨by rw [HE.out]; exact hE0,by rw [HE.out]; rfl⟩,HB2.out⟩
 ·obtain ⟨m',hm'⟩:∃ m,L'.length=m:=⟨_,rfl⟩
  have ji:=hid (zK (LQ:=LQ) (ok:=ok) (fr:=fr) HG.out hL' hc' (by have:jg true (its T)≤512:=HW.out.2.1.size; omega) hO' HB2.out hm' (by rw [HE.out]; exact hE0))
  rw [hm']
  clear hO' hL' hc' hl' hz' hm' hE0
  go_wp2_with fail
  refine ji.out.mono ?_
  rintro e w3 ⟨va,S,rfl,hpost⟩
  have HP:=hid hpost
  clear hpost
  go_wp2_with fail
  go_ret2
  exact HP.out
theorem acj {d:Nat}(L:Its (d+1))(x:bM (Kd (d+1)))(hx:x ∈ L):bg d (its x.2.2)≤bg (d+1) L:=by
 obtain ⟨i,hi,rfl⟩:=List.getElem_of_mem hx
 have e:L=L.take i++L[i]::L.drop (i+1):=by rw [← List.drop_eq_getElem_cons hi,List.take_append_drop]
 have h1:=congrArg (bg (d+1)) e
 rw [fB] at h1
 have h2:bg (d+1) (L[i]::L.drop (i+1))=jc (d+1) L[i].2.2+bg (d+1) (L.drop (i+1)):=rfl
 have h3:=mY L[i].2.2
 omega
theorem Lu (LQ:ay→aC→Prop)(t P:Nat)(rt:Value)(c:Cg)(n:Nat)(caps:Array Value)(d:Nat)(ih:rC LQ t P rt c n caps d):rC LQ t P rt c n caps (d+1):=by
 intro T ok fr v f s w ht hr hT hok hw hs hF hdo
 have Jn:=hid (fun (W:World) (hW:Below w.heap.size w W)=>o6 LQ ok (d+1) t P false T rt f s W ((hW.block t (lt_of_block ht)).trans ht) (hr.below hW) (hT.below hok hW) (fun k hk=>Nat.lt_of_lt_of_le (hok k hk) hW.size) hw.2.1 rfl (fun A hA=>vH hw.1 hw.2.1 (Ls hs) hA))
 have al5:=hid (fun (W:World) (hW:Below w.heap.size w W) (g cc:Nat) (L:Its (d+1)) (hg:w.heap.size≤g) (hob:OB W g cc (d+1) L) (hcc:L.length+1≤cc) (Hr:cc≤1001) (hsm:bP (d+1) L (its T)) (htr:∀ y ∈ L,TR LQ W (fun k=>(ok k∨w.heap.size≤k∧k ≠ g)∧k<W.heap.size) (d+1) y.2.2) =>
  Lt LQ (fun k=>(ok k∨w.heap.size≤k∧k ≠ g)∧k<W.heap.size) d t P g cc c (.func (.func n) #[] caps) rt L f s w W hW hg ht hr hob hcc Hr htr (fun k hk=>⟨hk.2,by
   rcases hk.1 with e | e
   ·have:=hok k e; omega
   ·exact e.2⟩) (wK hsm.symm hw.1) (rf hsm.symm hw.2.1) (by rw [iG hsm]; exact hw.2.2 (by omega)) hs (by rw [kM hsm]; omega)
   (fun x hx W' f' s' hW' hwx hsx=>ih x.2.2 _ x.1 x.2.1 f' s' W' (((aK hW hW').block t (lt_of_block ht)).trans ht) (hr.below (aK hW hW')) ((htr x hx).below (fun k hk=>hk.2) hW') (fun k hk=>Nat.lt_of_lt_of_le hk.2 hW'.size) hwx hsx (by
     have h1:=acj L x hx
     rw [kM hsm] at h1
     omega) (hdo.below (aK hW hW'))))
 have pG:=hid hok
 have HF:=hid hF
 obtain ⟨E,hE⟩:∃ E,c.err (cont (d+1) (its T))=E:=⟨_,rfl⟩
 have HE:=hid hE
 clear ht hr hT hok hw hs hF hdo hE ih
 go_enter Tryz.func69,Tryz.ntmps69
 go_upto_region 1 with fail
 have HB0:=hid (aK (aJ w (.cells #[.string fr,.string v,.pointer (di (d+1+1) T)] 129)) (aJ _ (.cells #[.string f,.string s] 96)))
 have hn0:=ah w (.cells #[.string fr,.string v,.pointer (di (d+1+1) T)] 129)
 have k0:=ae (cell_of_row (w.alloc (.cells #[.string fr,.string v,.pointer (di (d+1+1) T)] 129)) w.heap.size 0 _ _ _ hn0) ((aJ _ (.cells #[.string f,.string s] 96)).block w.heap.size (lt_of_block hn0))
 have QV:=hid k0
 clear hn0 k0
 go_wp2_with fail
 refine (Jn.out _ HB0.out).mono ?_
 rintro e w1 ⟨g,cc,L,rfl,hg,hob,hcc,Hr,hsm,htr,hb1⟩
 have k1:=ae QV.out (hb1.block _ (block_lt_of_cell QV.out))
 have D9:=hid k1
 have HNG:=hid (show w.heap.size ∉ [g] by have h1:w.heap.size+1+1≤g:=(by simpa using hg); simp only [List.mem_singleton]; omega)
 have HB1:=hid (aK HB0.out hb1)
 have HG:=hid (Nat.le_trans HB0.out.size hg)
 have MM:=hid (al5.out w1 HB1.out g cc L HG.out hob hcc Hr hsm (fun y hy=>(htr y hy).bound.more (fun _ _ h=>h) (fun k hk=>⟨hk.1.imp id (fun e=>⟨Nat.le_trans HB0.out.size e.1,e.2⟩),hk.2⟩)))
 have qM:=hid hsm
 have HGL:=hid hob.lt
 obtain ⟨m,hm⟩:∃ m,L.length=m:=⟨_,rfl⟩
 rw [hm] at MM ⊢
 have u0:=ae (cell_of_row ((w.alloc (.cells #[.string fr,.string v,.pointer (di (d+1+1) T)] 129)).alloc (.cells #[.string f,.string s] 96)) (w.heap.size+1) 0 _ _ _ (by have:=ah (w.alloc (.cells #[.string fr,.string v,.pointer (di (d+1+1) T)] 129)) (.cells #[.string f,.string s] 96); rwa [show (w.alloc (.cells #[.string fr,.string v,.pointer (di (d+1+1) T)] 129)).heap.size=w.heap.size+1 by simp] at this)) (hb1.block _ (by simp))
 have u1:=ae (cell_of_row ((w.alloc (.cells #[.string fr,.string v,.pointer (di (d+1+1) T)] 129)).alloc (.cells #[.string f,.string s] 96)) (w.heap.size+1) 1 _ _ _ (by have:=ah (w.alloc (.cells #[.string fr,.string v,.pointer (di (d+1+1) T)] 129)) (.cells #[.string f,.string s] 96); rwa [show (w.alloc (.cells #[.string fr,.string v,.pointer (di (d+1+1) T)] 129)).heap.size=w.heap.size+1 by simp] at this)) (hb1.block _ (by simp))
 clear hg hob hcc Hr htr hb1 hm Jn al5 k1 hsm
 go_wp2_with fail
 refine MM.out.mono ?_
 rintro e w2 hq
 unfold zJ at hq
 rw [oG qM.out,HE.out] at hq
 rcases hq with ⟨hE0,rfl,ht2⟩ | ⟨hE0,N,rfl,hN,hO2,hk2,ht2⟩
 ·have HB2:=hid (bC HB1.out ht2 HG.out)
  clear ht2
  go_wp2_with fail
  go_ret2
  exact ⟨.inl ⟨by rw [HE.out]; exact hE0,by rw [HE.out]; rfl⟩,HB2.out⟩
 ·have k2:=ae D9.out (ht2.block _ (block_lt_of_cell D9.out) (by exact HNG.out))
  obtain ⟨m',hm'⟩:∃ m,N.length=m:=⟨_,rfl⟩
  have ji:=hid (afv (fr:=fr) HG.out HGL.out pG.out HB1.out qM.out hN (by rw [kM qM.out]; exact HF.out) hO2 hk2 ht2 hm' (by rw [HE.out]; exact hE0))
  rw [hm']
  clear hN hO2 hk2 ht2 hm' hE0
  go_wp2_with fail
  refine ji.out.mono ?_
  rintro e w3 ⟨va,S,rfl,hpost⟩
  have HP:=hid hpost
  clear hpost
  go_wp2_with fail
  go_ret2
  exact HP.out
theorem Bi (LQ:ay→aC→Prop)(t P:Nat)(rt:Value)(c:Cg)(n:Nat)(caps:Array Value)(h:rC LQ t P rt c n caps 0):∀ d,rC LQ t P rt c n caps d
 | 0=>h
 | d+1=>Lu LQ t P rt c n caps d (Bi LQ t P rt c n caps h d)
def Pv (c:Cg)(W:World)(e:Ending)(W':World):Prop :=
 (c.err [] ≠ 0∧e = .returned (.tuple #[.slice none 0 0,.int .i64 (c.err [])])∨c.err []=0∧∃ g cc,∃ L':Its 0,e = .returned (.tuple #[.slice (some ⟨g,0,none⟩) L'.length cc,.int .i64 0])∧W.heap.size≤g∧OB W' g cc 0 L'∧iC L' aY aY∧cont 0 L'=c.app []∧jg true L'≤690)∧Below W.heap.size W W'
theorem is_nil (W:World)(d:Nat):IS W none 0 d ([]:Its d):=⟨rfl,fun i x hx=>by simp at hx⟩
theorem afx (k v:ByteArray)(bk bv:Nat)(W:World)(hk:W.cell? ⟨bk,0,none⟩=some (.string k))(hv:W.cell? ⟨bv,0,none⟩=some (.string v))(hks:1≤k.size∧k.size≤32)(hvs:v.size≤96) :
 Calls Tryz.prog 51 #[.slice none 0 0,.pointer (some ⟨bk,0,none⟩),.pointer (some ⟨bv,0,none⟩)] W fun e W'=>Pv (.put k v) W e W':=by
 have HF:=hid (show Calls Tryz.prog 52 #[.slice none 0 0,.string k] W fun e w'=>e = .returned (.tuple #[.int .i64 0,.bool false])∧Below W.heap.size W w' from oU 0 none 0 0 [] k W (is_nil W 0) (by decide) List.Pairwise.nil)
 have HP:=hid (And.intro hks hvs)
 clear hks hvs
 go_enter Tryz.func51,Tryz.ntmps51
 go_wp2_with fail
 refine HF.out.mono ?_
 rintro e w1 ⟨rfl,hb1⟩
 have HB1:=hid hb1
 have k1:=ae hk (hb1.block _ (block_lt_of_cell hk))
 have v1:=ae hv (hb1.block _ (block_lt_of_cell hv))
 clear hb1 hk hv
 have hbk:=Fg k v
 have hli:=fun (u v p:Value) (W:World)=>Fe u v p W
 go_wp2_with fail
 refine (Ll 0 w1.heap.size (show bM (Kd 0) from (k,v,())) _ (ah w1 _)).mono ?_
 rintro e w2 ⟨g,cc,rfl,hg,ho2,hb2⟩
 have HO2:=hid ho2
 have HG:=hid hg
 have HB2:=hid hb2
 clear ho2 hg hb2
 go_wp2_with fail
 go_ret2
 obtain ⟨⟨p1,p2⟩,p3⟩:=HP.out
 have hb:=aK HB1.out (aJ w1 (.cells #[.string k,.string v,.pointer none] 129))
 refine ⟨.inr ⟨rfl,g,cc, [(show bM (Kd 0) from (k,v,()))],rfl,Nat.le_trans hb.size HG.out,HO2.out,⟨List.pairwise_singleton _ _, ?_, ?_, ?_⟩,rfl, ?_⟩,aK hb HB2.out⟩
 ·intro x hx; rw [List.mem_singleton.1 hx]; exact ⟨l7 _,.inl rfl⟩
 ·intro x hx; rw [List.mem_singleton.1 hx]; exact ⟨p1,p2⟩
 ·intro x hx; rw [List.mem_singleton.1 hx]; exact p3
 ·show 2+(1+k.size+1+v.size)+0≤690; omega
theorem afy (k:ByteArray)(bk:Nat)(W:World)(hk:W.cell? ⟨bk,0,none⟩=some (.string k)) :
 Calls Tryz.prog 54 #[.slice none 0 0,.pointer (some ⟨bk,0,none⟩)] W fun e W'=>Pv (.del k) W e W':=by
 have HF:=hid (show Calls Tryz.prog 52 #[.slice none 0 0,.string k] W fun e w'=>e = .returned (.tuple #[.int .i64 0,.bool false])∧Below W.heap.size W w' from oU 0 none 0 0 [] k W (is_nil W 0) (by decide) List.Pairwise.nil)
 go_enter Tryz.func54,Tryz.ntmps54
 go_wp2_with fail
 refine HF.out.mono ?_
 rintro e w1 ⟨rfl,hb1⟩
 have HB1:=hid hb1
 clear hb1 hk
 go_wp2_with fail
 go_ret2
 exact ⟨.inl ⟨by show (if xg k []=true then (0:Int) else 8) ≠ 0; rw [show xg k []=false from rfl]; decide,rfl⟩,HB1.out⟩
def agM (c:Cg)(n:Nat)(caps:Array Value)(w:World):Prop:=∀ (W:World),Below w.heap.size w W→Calls Tryz.prog n (#[.slice none 0 0]++caps) W fun e W'=>Pv c W e W'
theorem Ht (LQ:ay→aC→Prop)(ok:Nat→Prop)(t:Value)(c:Cg)(bk bv:Nat)(fr v key:ByteArray)(w:World)(hdo:agM c 51 #[.pointer (some ⟨bk,0,none⟩),.pointer (some ⟨bv,0,none⟩)] w) :
 Calls Tryz.prog 69 #[t,.agg #[.string fr,.string v,.pointer none],.agg #[.string aY,.string aY],.string key,.func (.func 51) #[] #[.pointer (some ⟨bk,0,none⟩),.pointer (some ⟨bv,0,none⟩)]] w fun e w'=>mF LQ ok 0 c fr aY aY ([]:Its 0) w e w':=by
 have Jn:=hid (fun W=>Fj t aY aY W)
 have HD:=hid hdo
 obtain ⟨E,hE⟩:∃ E,c.err []=E:=⟨_,rfl⟩
 have HE:=hid hE
 clear hdo hE
 go_enter Tryz.func69,Tryz.ntmps69
 go_upto_region 1 with fail
 have HB0:=hid (aK (aJ w (.cells #[.string fr,.string v,.pointer none] 129)) (aJ _ (.cells #[.string aY,.string aY] 96)))
 have hn0:=ah w (.cells #[.string fr,.string v,.pointer none] 129)
 have k0:=ae (cell_of_row (w.alloc (.cells #[.string fr,.string v,.pointer none] 129)) w.heap.size 0 _ _ _ hn0) ((aJ _ (.cells #[.string aY,.string aY] 96)).block w.heap.size (lt_of_block hn0))
 have QV:=hid k0
 clear hn0 k0
 go_wp2_with fail
 refine (Jn.out _).mono ?_
 rintro e w1 ⟨rfl,hb1⟩
 have D9:=hid (ae QV.out (hb1.block _ (block_lt_of_cell QV.out)))
 have HB1:=hid (aK HB0.out hb1)
 have HDO:=hid (show Calls Tryz.prog 51 #[.slice none 0 0,.pointer (some ⟨bk,0,none⟩),.pointer (some ⟨bv,0,none⟩)] w1 fun e W'=>Pv c w1 e W' from HD.out w1 HB1.out)
 clear hb1 Jn HD
 go_wp2_with fail
 refine HDO.out.mono ?_
 rintro e w2 ⟨hq,hb2⟩
 rw [HE.out] at hq
 have HB2:=hid (aK HB1.out hb2)
 have k2:=ae D9.out (hb2.block _ (block_lt_of_cell D9.out))
 clear hb2
 rcases hq with ⟨hE0,rfl⟩ | ⟨hE0,g,cc,L',rfl,hg,hO',hL',hc',hz'⟩
 ·go_wp2_with fail
  go_ret2
  exact ⟨.inl ⟨by show c.err [] ≠ 0; rw [HE.out]; exact hE0,by show _=Ending.returned (.tuple #[.slice none 0 0,.int .i64 (c.err [])]); rw [HE.out]; rfl⟩,HB2.out⟩
 ·obtain ⟨m',hm'⟩:∃ m,L'.length=m:=⟨_,rfl⟩
  have ji:=hid (zK (LQ:=LQ) (ok:=ok) (fr:=fr) (L:=([]:Its 0)) (Nat.le_trans HB1.out.size hg) hL' hc' hz' hO' HB2.out hm' (show c.err []=0 by rw [HE.out]; exact hE0))
  rw [hm']
  clear hO' hL' hc' hz' hm' hE0 hg
  go_wp2_with fail
  refine ji.out.mono ?_
  rintro e w3 ⟨va,S,rfl,hpost⟩
  have HP:=hid hpost
  clear hpost
  go_wp2_with fail
  go_ret2
  exact HP.out
theorem Hu (LQ:ay→aC→Prop)(ok:Nat→Prop)(t:Value)(c:Cg)(bk:Nat)(fr v key:ByteArray)(w:World)(hdo:agM c 54 #[.pointer (some ⟨bk,0,none⟩)] w) :
 Calls Tryz.prog 69 #[t,.agg #[.string fr,.string v,.pointer none],.agg #[.string aY,.string aY],.string key,.func (.func 54) #[] #[.pointer (some ⟨bk,0,none⟩)]] w fun e w'=>mF LQ ok 0 c fr aY aY ([]:Its 0) w e w':=by
 have Jn:=hid (fun W=>Fj t aY aY W)
 have HD:=hid hdo
 obtain ⟨E,hE⟩:∃ E,c.err []=E:=⟨_,rfl⟩
 have HE:=hid hE
 clear hdo hE
 go_enter Tryz.func69,Tryz.ntmps69
 go_upto_region 1 with fail
 have HB0:=hid (aK (aJ w (.cells #[.string fr,.string v,.pointer none] 129)) (aJ _ (.cells #[.string aY,.string aY] 96)))
 have hn0:=ah w (.cells #[.string fr,.string v,.pointer none] 129)
 have k0:=ae (cell_of_row (w.alloc (.cells #[.string fr,.string v,.pointer none] 129)) w.heap.size 0 _ _ _ hn0) ((aJ _ (.cells #[.string aY,.string aY] 96)).block w.heap.size (lt_of_block hn0))
 have QV:=hid k0
 clear hn0 k0
 go_wp2_with fail
 refine (Jn.out _).mono ?_
 rintro e w1 ⟨rfl,hb1⟩
 have D9:=hid (ae QV.out (hb1.block _ (block_lt_of_cell QV.out)))
 have HB1:=hid (aK HB0.out hb1)
 have HDO:=hid (show Calls Tryz.prog 54 #[.slice none 0 0,.pointer (some ⟨bk,0,none⟩)] w1 fun e W'=>Pv c w1 e W' from HD.out w1 HB1.out)
 clear hb1 Jn HD
 go_wp2_with fail
 refine HDO.out.mono ?_
 rintro e w2 ⟨hq,hb2⟩
 rw [HE.out] at hq
 have HB2:=hid (aK HB1.out hb2)
 have k2:=ae D9.out (hb2.block _ (block_lt_of_cell D9.out))
 clear hb2
 rcases hq with ⟨hE0,rfl⟩ | ⟨hE0,g,cc,L',rfl,hg,hO',hL',hc',hz'⟩
 ·go_wp2_with fail
  go_ret2
  exact ⟨.inl ⟨by show c.err [] ≠ 0; rw [HE.out]; exact hE0,by show _=Ending.returned (.tuple #[.slice none 0 0,.int .i64 (c.err [])]); rw [HE.out]; rfl⟩,HB2.out⟩
 ·obtain ⟨m',hm'⟩:∃ m,L'.length=m:=⟨_,rfl⟩
  have ji:=hid (zK (LQ:=LQ) (ok:=ok) (fr:=fr) (L:=([]:Its 0)) (Nat.le_trans HB1.out.size hg) hL' hc' hz' hO' HB2.out hm' (show c.err []=0 by rw [HE.out]; exact hE0))
  rw [hm']
  clear hO' hL' hc' hz' hm' hE0 hg
  go_wp2_with fail
  refine ji.out.mono ?_
  rintro e w3 ⟨va,S,rfl,hpost⟩
  have HP:=hid hpost
  clear hpost
  go_wp2_with fail
  go_ret2
  exact HP.out
abbrev Rt:=Option ((d:Nat)×Kd (d+1))
def Rt.ptr:Rt→bO
 | none=>none
 | some ⟨d,T⟩=>di (d+1) T
def Rt.cn:Rt→List bV
 | none=>[]
 | some ⟨d,T⟩=>cont d (its T)
def Rt.fr:Rt→Nat
 | none=>0
 | some ⟨d,T⟩=>jc (d+1) T
def Rt.dp:Rt→Nat
 | none=>0
 | some ⟨d,_⟩=>d
def Rt.wf:Rt→Prop
 | none=>True
 | some ⟨d,T⟩=>mP d T aY aY
def Rt.at_ (LQ:ay→aC→Prop)(w:World)(ok:Nat→Prop):Rt→Prop
 | none=>True
 | some ⟨d,T⟩=>TR LQ w ok (d+1) T
theorem afz {w:World}{g d:Nat}{L:Its d}(h:w.heap[g]? = some (.cells (aH d L).toArray 129 (0,0))):OB w g L.length d L:=⟨⟨[],by rw [List.append_nil]; exact h,by rw [List.append_nil,bu]⟩⟩
theorem tJ {d:Nat}{T:Kd (d+1)}{l:Its d}(h:kT T = .inr l):jc (d+1) T=1+bg d l:=by
 unfold jc
 rw [h]
 rfl
def nC (LQ:ay→aC→Prop)(ok:Nat→Prop)(B:Nat)(l:List bV)(m:Nat)(w:World)(e:Ending)(w':World):Prop :=
 ∃ R:Rt,e = .returned (.pointer R.ptr)∧R.wf∧R.at_ LQ w' (fun k=>ok k∨w.heap.size≤k)∧R.cn=l∧R.fr≤m∧Below B w w'
theorem Px (LQ:ay→aC→Prop)(ok:Nat→Prop)(B:Nat)(w:World) :
 Calls Tryz.prog 70 #[.slice none 0 0] w fun e w'=>nC LQ ok B [] 0 w e w':=by
 go_enter Tryz.func70,Tryz.ntmps70
 go_wp2_with fail
 go_ret
 exact ⟨none,rfl,trivial,trivial,rfl,Nat.le_refl _,Below.refl _ _⟩
theorem afA {d:Nat}{T:Kd (d+2)}{y:bM (Kd (d+1))}(h:Ti (d+1) T aY aY)(e:its T=[y]):mP d y.2.2 aY aY:=by
 have h1:lN (d+1) (its T) aY aY:=h.1
 rw [e] at h1
 exact h1
theorem Ue (LQ:ay→aC→Prop)(ok:Nat→Prop)(d B vb:Nat)(x:bM (Kd (d+1)))(l':Its d)(w:World)(hv:w.heap[vb]? = some (.cells (aH (d+1) [x]).toArray 129 (0,0)))(hT:TR LQ w ok (d+1) x.2.2)(hb:kT x.2.2 = .inr l')(hw:Ti d x.2.2 aY aY) :
 Calls Tryz.prog 70 #[.slice (some ⟨vb,0,none⟩) 1 1] w fun e w'=>nC LQ ok B (cont d (its x.2.2)) (jc (d+1) x.2.2) w e w':=by
 have q2:=cO hv 2 (.pointer (di (d+1) x.2.2)) rfl
 have hits:its x.2.2=l':=by unfold its; rw [hb]; rfl
 have hT0:=hT
 obtain ⟨_,acg⟩:=hT
 rw [hb] at acg
 obtain ⟨gx,ox,cx,htw,_,hIS,Yl⟩:=acg
 have HH:=hid (abG d (oP x.2.2) gx ox l'.length cx _ l' w htw hIS)
 have hiz:=bT vb 0 1 1 0 (by omega)
 simp only [Nat.zero_mul,Nat.add_zero] at hiz
 have kp:di (d+1) x.2.2=some ⟨oP x.2.2,0,none⟩:=rfl
 rw [kp] at q2
 have HF:=hid (And.intro hT0 (And.intro hw (And.intro hits (And.intro hb Yl))))
 clear hT0 hw hits hb Yl htw hIS hv kp
 go_enter Tryz.func70,Tryz.ntmps70
 go_wp2_with fail
 refine HH.out.mono ?_
 rintro e w1 ⟨hq,hw1⟩
 subst hw1
 obtain ⟨hT0,hw,hits,hb,Yl⟩:=HF.out
 rcases hq with ⟨hd,y,hy,rfl⟩ | ⟨hnd,rfl⟩
 ·have hwy:=hw
  obtain ⟨d,rfl⟩:∃ e,d=e+1:=⟨d - 1,by omega⟩
  have htr:TR LQ w1 (fun k=>ok k∨w1.heap.size≤k) (d+1) y.2.2:=(Yl y (by rw [hy]; simp)).more (fun _ _ h=>h) (fun k hk => .inl hk)
  have jh:=hid (show nC LQ ok B (cont (d+1) (its x.2.2)) (jc (d+1+1) x.2.2) w1 (.returned (.pointer (di (d+1) y.2.2))) w1 from ⟨some ⟨d,y.2.2⟩,rfl,afA hw (by rw [hits,hy]),htr,by rw [hits,hy]; exact (gW (d:=d) y).symm,by
   rw [tJ hb,hy]
   show jc (d+1) y.2.2≤1+(jc (d+1) y.2.2+0)
   omega,Below.refl _ _⟩)
  clear hT0 hw hits hb Yl hy hwy hd htr
  go_wp2_with fail
  go_ret
  exact jh.out
 ·have htr:TR LQ w1 (fun k=>ok k∨w1.heap.size≤k) (d+1) x.2.2:=hT0.more (fun _ _ h=>h) (fun k hk => .inl hk)
  have jh:=hid (show nC LQ ok B (cont d (its x.2.2)) (jc (d+1) x.2.2) w1 (.returned (.pointer (some ⟨oP x.2.2,0,none⟩))) w1 from ⟨some ⟨d,x.2.2⟩,rfl,⟨hw.1,hw.2,fun hd=>by
   have h1:(its x.2.2).length ≠ 0:=fun e=>hw.2.some (List.length_eq_zero_iff.1 e)
   rw [hits] at h1 ⊢
   have:l'.length ≠ 1:=fun e=>hnd ⟨hd,e⟩
   omega⟩,htr,rfl,Nat.le_refl _,Below.refl _ _⟩)
  clear hT0 hw hits hb Yl hnd htr
  go_wp2_with fail
  go_ret
  exact jh.out
theorem Uf (LQ:ay→aC→Prop)(ok:Nat→Prop)(d B vb:Nat)(x y:bM (Kd (d+1)))(w:World)(hB:B≤w.heap.size)(hvB:B≤vb)(hv:w.heap[vb]? = some (.cells (aH (d+1) [x,y]).toArray 129 (0,0)))(hT:∀ z ∈ [x,y],TR LQ w (fun k=>ok k∧k ≠ vb) (d+1) z.2.2)(hok:∀ k,ok k→k<w.heap.size)(hvo:ok vb)(hS:sV d aY aY aY [x,y])(hF:bg (d+1) [x,y]≤1000000) :
 Calls Tryz.prog 70 #[.slice (some ⟨vb,0,none⟩) 2 2] w fun e w'=>nC LQ ok B (cont (d+1) [x,y]) (1+bg (d+1) [x,y]) w e w':=by
 have hob:OB w vb 2 (d+1) [x,y]:=afz hv
 have HG:=hid (wL LQ (fun k=>ok k∧k ≠ vb) (d+1) vb 2 0 2 2 [x,y] w hob hT (fun k hk=>⟨hok k hk.1,hk.2⟩) (by omega) (by simp) (by simp) hF)
 have HF:=hid (And.intro hT (And.intro hok (And.intro hS (And.intro hB (And.intro hvB hvo)))))
 simp only [Nat.zero_mul] at HG
 clear hT hok hS hob hv hB hvB hvo hF
 go_enter Tryz.func70,Tryz.ntmps70
 go_wp2_with fail
 refine HG.out.mono ?_
 rintro e w1 ⟨b,rfl,hb,htw,hob,ht⟩
 obtain ⟨hT,hok,hS,hB,hvB,hvo⟩:=HF.out
 have hwf:mP (d+1) (mkK b (.inr (hd0 (d+1) [x,y]))) aY aY:=by
  cases hS with
  | two _ _ e1 e2 e3 hx hs hy =>
    refine ⟨KU (d:=d+1) (L:=[x,y]) (f:=aY) (t:=aY) ⟨hx,hs,hy⟩,KW (d:=d+1) (L:=[x,y]) (by simp) ?_ (fun _ z hz=>?_),fun _=>by show 2≤(hd0 (d+1) [x,y]).length; rw [gG]; simp⟩
    ·show 2+44+((1+y.1.size+44)+0)≤512
     have:=hs.2.2
     omega
    ·rcases List.mem_cons.1 hz with rfl | hz
     ·exact e2
     ·rw [List.mem_singleton.1 hz]; exact e3
 have htr:TR LQ w1 (fun k=>ok k∨w.heap.size≤k) (d+1+1) (mkK b (.inr (hd0 (d+1) [x,y]))):=by
  refine Le (i:=0) (k:=2) (c:=2) (c0:=2) (g:=vb) hob ?_ rfl ?_ (.inr hb) (.inl hvo) ?_ (fun z hz=>((hT z hz).keep (fun k hk=>ht.block k (hok k hk.1) (by simpa using hk.2))).more (fun _ _ h=>h) (fun k hk => .inl hk.1))
  ·exact List.take_of_length_le (by rw [List.take_zero,List.nil_append,List.drop_zero,List.drop_zero,gG]; simp)
  ·rw [List.take_zero,List.nil_append,List.drop_zero,gG]; simp
  ·exact htw
 have jh:=hid (show nC LQ ok B (cont (d+1) [x,y]) (1+bg (d+1) [x,y]) w (.returned (.pointer (some ⟨b,0,none⟩))) w1 from ⟨some ⟨d+1,mkK b (.inr (hd0 (d+1) [x,y]))⟩,rfl,hwf,htr,zu (d+1) [x,y],by
       show 1+bg (d+1) (hd0 (d+1) [x,y])≤_
       rw [rq]
       exact Nat.le_refl _,ht.below hB (fun k hk=>by rw [List.mem_singleton.1 hk]; exact hvB)⟩)
 clear htr
 clear hT hok hS hwf hb htw hob ht hB hvB hvo
 go_wp2_with fail
 go_ret
 exact jh.out
end
end Go.Proofs.YtljjcbmkbmloaaaGreatDoor
