import Derived.Test.YtljjcbmkbmloaaaGreatDoorGTu22
import Derived.Test.YtljjcbmkbmloaaaGreatDoorGTuA
namespace Go.Proofs.YtljjcbmkbmloaaaGreatDoor
set_option maxHeartbeats 3200000
set_option maxRecDepth 100000
set_option linter.unusedVariables false
open Lib (hid)
open Go.ChangeShapes Go.WideShapes Go.ChangeAt Go.RowKit
theorem Pz {LQ:ay→az→Prop}{ok:Nat→Prop}{g c gA g5 d vc:Nat}{va:bO}{S a b:Its (d+1)}{p q:bK (Kd (d+1))}{w w4 w5 w6 w7:World}(hL:OB w g c (d+1) (a++p::q::b))(hk:∀ x ∈ a++p::q::b,TR LQ w ok (d+1) x.2.2)(hok:∀ k,ok k→k<w.heap.size∧k ≠ g)
 (hgA:w.heap.size≤gA) (h4:Below w.heap.size w w4) (h5:Touch [gA] w4 w5) (h5g:g5=gA∨g5=w4.heap.size) (hS:jQ LQ w6 (fun k=>((ok k∨w.heap.size≤k)∧k<w4.heap.size∧k ≠ gA)∨k=g5∨w5.heap.size≤k) d va vc S) (h6:Touch [g5] w5 w6) (h7:Touch [g] w6 w7) :
 (∀ x ∈ a++(S++b),TR LQ w7 (fun k=>ok k∨w.heap.size≤k) (d+1) x.2.2)∧Touch [g] w w7:=by
 have hg:=hL.lt
 have h5l:w.heap.size≤g5:=by
  rcases h5g with rfl | rfl
  ·exact hgA
  exact h4.size
 have hb:Below w.heap.size w w6:=bC (bC h4 h5 hgA) h6 h5l
 have hT:Touch [g] w w7:=(Touch.of_below hb).trans h7
 refine ⟨fun x hx=>?_,hT⟩
 rcases List.mem_append.1 hx with hx | hx
 ·exact ((hk x (by simp [hx])).keep (fun k hk=>hT.block k (hok k hk).1 (by simpa using (hok k hk).2))).more (fun _ _ h=>h) (fun k hk => .inl hk)
 ·rcases List.mem_append.1 hx with hx | hx
  ·refine ((hS.kids x hx).bound.keep (fun k hk=>h7.block k hk.2 ?_)).more (fun _ _ h=>h) (fun k hk=>?_)
   ·simp only [List.mem_singleton]
    rintro rfl;rcases hk.1 with ⟨e | e,_⟩ | e | e
    ·exact (hok _ e).2 rfl
    ·omega
    ·omega
    have:=h4.size; have:=h5.size; omega
   rcases hk.1 with ⟨e,_⟩ | e | e
   ·exact e
   ·right; omega
   right; have:=h4.size; have:=h5.size; omega
  exact ((hk x (by simp [hx])).keep (fun k hk=>hT.block k (hok k hk).1 (by simpa using (hok k hk).2))).more (fun _ _ h=>h) (fun k hk => .inl hk)
theorem take_at {κ:Type}(a b:List κ)(p q:κ):(a++p::q::b).take a.length=a∧(a++p::q::b).drop (a.length+2)=b:=by
 refine ⟨List.take_left, ?_⟩;rw [← List.drop_drop,List.drop_left];rfl
theorem PE {LQ:ay→az→Prop}{ok:Nat→Prop}{d g c:Nat}{fr:ByteArray}{L:Its d}{w:World}(h:Calls Tryz.prog 91 #[.string fr,.slice (some ⟨g,0,none⟩) L.length c,.bool (d == 0)] w fun e w'=>∃ va S,e = .returned (.slice va S.length S.length)∧iy d fr L S∧jQ LQ w' (fun k=>ok k∨k=g∨w.heap.size≤k) d va S.length S∧Touch [g] w w'∧∀ b,va=some b→w.heap.size≤b.block∧∀ x ∈ S,TR LQ w' (fun k=>(ok k∨k=g∨w.heap.size≤k)∧k ≠ b.block) (d+1) x.2.2){m:Nat}(hm:L.length=m) :
 Calls Tryz.prog 91 #[.string fr,.slice (some ⟨g,0,none⟩) m c,.bool (d == 0)] w fun e w'=>∃ va S,e = .returned (.slice va S.length S.length)∧iy d fr L S∧jQ LQ w' (fun k=>ok k∨k=g∨w.heap.size≤k) d va S.length S∧Touch [g] w w'∧∀ b,va=some b→w.heap.size≤b.block∧∀ x ∈ S,TR LQ w' (fun k=>(ok k∨k=g∨w.heap.size≤k)∧k ≠ b.block) (d+1) x.2.2:=by
 subst hm; exact h
theorem JJ {W:World}{g c d l:Nat}{fr:ByteArray}{L:Its d}{S a b:Its (d+1)}(h:iy d fr L S)(hne:L ≠ [])(ho:OB W g c (d+1) (a++(S++b)))(hl:a.length=l):W.cell? ⟨g,l * 3,none⟩=some (.string fr):=by
 subst hl;have q:∀ x r,S=x::r→W.cell? ⟨g,a.length * 3,none⟩=some (.string x.1):=fun x r e=>(ho.at3 a.length x (by subst e; simp)).k;cases h with
 | none h=>exact absurd h hne
 | one a h1 h2=>exact q _ _ rfl
 | two i y a b h1 h2 h3=>exact q _ _ rfl
theorem YF (LQ:ay→az→Prop)(ok:Nat→Prop)(d t P g c i:Nat)(p q:bK (Kd (d+1)))(a b:Its (d+1))(rt:Value)(f s:ByteArray)(w:World)(hlf:(d == 0)=true)(ht:w.heap[t]? = some (.cells #[.pointer (some ⟨P,0,none⟩),rt] 94 (0,0)))(hr:RD LQ w P)(h:OB w g c (d+1) (a++p::q::b))(hi:a.length=i - 1)(hi2:i≤1000)(hc:(a++p::q::b).length+1≤c)(hc2:c≤1001)
 (hk:∀ x ∈ a++p::q::b,TR LQ w ok (d+1) x.2.2) (hok:∀ k,ok k→k<w.heap.size∧k ≠ g) (hop:qZ d (its p.2.2)) (hoq:qZ d (its q.2.2))
 (hcp:∀ A,bP d A (its p.2.2)→dH (oC (f,s) (a++p::q::b) a.length) (d == 0) A=A) (hcq:∀ A,bP d A (its q.2.2)→dH (oC (f,s) (a++p::q::b) (a.length+1)) (d == 0) A=A)
 (hM:∀ A B,bP d A (its p.2.2)→bP d B (its q.2.2)→Sm (A++oV d q.1 B)∧bf d (A++oV d q.1 B)≤1000000∧∀ x ∈ A++oV d q.1 B,nM (d == 0) x≤130) :
 Calls Tryz.prog 125 #[.pointer (some ⟨t,0,none⟩),.slice (some ⟨g,0,none⟩) (a++p::q::b).length c,.int .i64 (i:Nat),.agg #[.string f,.string s]] w fun e w'=>vT LQ ok g c d p q a b w e w':=by
 have Uu:=hid (fun (W:World) (hW:Below w.heap.size w W)=>pX LQ ok d t P true p.2.2 rt (oC (f,s) (a++p::q::b) a.length).1 (oC (f,s) (a++p::q::b) a.length).2 W ((hW.block t (lt_of_block ht)).trans ht) (hr.below hW) ((hk p (by simp)).below (fun k hk=>(hok k hk).1) hW) (fun k hk=>Nat.lt_of_lt_of_le (hok k hk).1 hW.size) hop hlf hcp)
 have Uw:=hid (fun (W:World) (hW:Below w.heap.size w W)=>pX LQ ok d t P true q.2.2 rt (oC (f,s) (a++p::q::b) (a.length+1)).1 (oC (f,s) (a++p::q::b) (a.length+1)).2 W ((hW.block t (lt_of_block ht)).trans ht) (hr.below hW) ((hk q (by simp)).below (fun k hk=>(hok k hk).1) hW) (fun k hk=>Nat.lt_of_lt_of_le (hok k hk).1 hW.size) hoq hlf hcq)
 have hcap:=h.cap
 have hlen:(a++p::q::b).length=a.length+2+b.length:=by simp; omega
 have MJ:=hid (fun (W:World) (hW:Below w.heap.size w W)=>pU (d+1) (some ⟨g,0,none⟩) (a++p::q::b).length c a.length (a++p::q::b) f s W (h.is.below hW) (by omega) (by omega))
 have zK:=hid (fun (W:World) (hW:Below w.heap.size w W)=>pU (d+1) (some ⟨g,0,none⟩) (a++p::q::b).length c (a.length+1) (a++p::q::b) f s W (h.is.below hW) (by omega) (by omega))
 have HPA:=hid (fun (ok':Nat→Prop) (g' c':Nat) (A B:Its d) (eA:bP d A (its p.2.2)) (eB:bP d B (its q.2.2)) (W:World) (hO:OB W g' c' d (A++oV d q.1 B)) (hK:∀ x ∈ A++oV d q.1 B,TR LQ W ok' d x.2.2) (hOK:∀ k,ok' k→k<W.heap.size∧k ≠ g') (m:Nat) (hm:(A++oV d q.1 B).length=m)=>PE (uh LQ ok' d g' c' p.1 (A++oV d q.1 B) W hO hK hOK (hM A B eA eB).1 (hM A B eA eB).2.1 hO.cap (hM A B eA eB).2.2) hm)
 have PG:=hid (fun (W:World) (hW:OB W g c (d+1) (a++p::q::b)) (va:bO) (S:Its (d+1)) (hv:VS W g va S.length (d+1) S) (hS:S.length≤2)=>yG (d+1) g c a.length (a.length+2) S.length va (a++p::q::b) S W hW hv (by omega) (by omega) hc (by omega) (by omega))
 have cp:=(h.at3 a.length p (by simp)).p
 have cpk:=(h.at3 a.length p (by simp)).k
 have hq1:(a++p::q::b)[a.length+1]? = some q:=by rw [List.getElem?_append_right (by omega),show a.length+1 - a.length=1 by omega]; rfl
 have cq:=(h.at3 (a.length+1) q hq1).p
 have cqk:=(h.at3 (a.length+1) q hq1).k
 have Ux:=bT g 0 (a++p::q::b).length c a.length (by omega)
 have MK:=bT g 0 (a++p::q::b).length c (a.length+1) (by omega)
 simp only [Nat.zero_add] at Ux MK
 have hmx:∀ (ts:Array TypeId) (T:TypeId) (W:World),(Builtin.max_ ts T #[.int .i64 ((i:Int) - 1),.int .i64 0]).run Tryz.prog W = .ok (.int .i64 (a.length:Int)) W:=fun ts T W=>Px ts T _ _ _ W (by split <;> omega)
 obtain ⟨ht1,ht2⟩:=take_at a b p q
 rw [ht1,ht2] at PG
 rw [hlf] at HPA
 have xH:=hid h
 have HK:=hid hk
 have qP:=hid hok
 have IA:=hid hlf
 have HNP:=hid (And.intro hop.some (And.intro hop.len (And.intro hoq.some hoq.len)))
 have hn2:¬ (((a++p::q::b).length:Int)=1):=by omega
 have hnI:((a++p::q::b).length:Int)≤1000:=by omega
 generalize hLL:a++p::q::b=L at *
 have HLL:=hid hLL
 obtain ⟨n,hn⟩:∃ n,L.length=n:=⟨_,rfl⟩
 rw [hn] at MJ zK PG Ux MK hn2 hnI hlen hc hcap ⊢
 obtain ⟨l,hl⟩:∃ l,a.length=l:=⟨_,rfl⟩
 rw [hl] at Uu Uw MJ zK PG cp cpk cq cqk Ux MK hmx hlen hi
 have lI:(l:Int)+1<(n:Int):=by omega
 have lJ:(l:Int)<(n:Int):=by omega
 have l0:(0:Int)≤(l:Int):=by omega
 have l1:(0:Int)≤(l:Int)+1:=by omega
 have iI:(i:Int)≤1000:=by omega
 have i0:(0:Int)≤(i:Int):=by omega
 have Ui:=hid (And.intro hn hl)
 have HW2:=hid (show IntKind.i64.wrap ((l:Int)+1+1)=(l:Int)+1+1 from IntWalk.i64_in _ (by omega))
 rw [show ((l+1:Nat):Int)=(l:Int)+1 by omega] at MK zK
 rw [show ((l+2:Nat):Int)=(l:Int)+1+1 by omega] at PG
 clear ht hr h hk hok hop hoq hcp hcq hM hlf hq1 ht1 ht2 hLL hn hl hlen hc hcap hi hi2
 go_in
 go_upto_region 6 with fail
 have HB1:=hid (aK w (.cells #[.string f,.string s] 96))
 have b0:=cell_of_row (w.alloc (.cells #[.string f,.string s] 96)) w.heap.size 0 _ _ _ (ah w _)
 have b1:=cell_of_row (w.alloc (.cells #[.string f,.string s] 96)) w.heap.size 1 _ _ _ (ah w _)
 generalize hW1:w.alloc (.cells #[.string f,.string s] 96)=w1 at *
 have s0:=b0
 have s1:=b1
 have kp:=ae cp (HB1.out.block _ (block_lt_of_cell cp))
 have ace:=hid (fun (W:World) (hW:Below w1.heap.size w1 W)=>Uu.out W (aJ HB1.out hW))
 have PI:=hid (fun (W:World) (hW:Below w1.heap.size w1 W)=>MJ.out W (aJ HB1.out hW))
 clear b0 b1 hW1 Uu MJ cp
 try simp only [Act.put]
 refine wp_region_noPanic ?_
 refine wp_region_held_drew (S:=fun W=>Below w1.heap.size w1 W) (by kernel_rfl) (Below.refl _ w1).drew (fun hHeld=>?_)
 refine tR 0 37 (h:=tR 1 38 (h:=tR 2 39 (h:=tR 3 40 (h:=tR 4 41 (h:=?_)))))
 refine tK 5 42 (.pointer (dA (d+1) p.2.2)) rfl (Or.inl ⟨by rfl, ?_⟩) ?_
 ·(intro w' hSw; have q0:=ae kp (hSw.block _ (block_lt_of_cell kp)); go_simp; try with_reducible rfl)
 try simp only [Act.put,pZ]
 refine tK 6 43 (.agg #[.string f,.string s]) rfl (Or.inl ⟨by rfl, ?_⟩) ?_
 ·(intro w' hSw; have q0:=ae s0 (hSw.block _ (block_lt_of_cell s0)); have q1:=ae s1 (hSw.block _ (block_lt_of_cell s1)); go_simp; try with_reducible rfl)
 try simp only [Act.put,pZ]
 refine tR 7 44 (h:=tR 8 45 (h:=?_))
 refine rD 9 rfl fun K hK=>?_
 go_simp
 go_at_call 58
 refine (PI.out w1.drew (Below.refl _ w1).drew).mono ?_
 rintro e v1 ⟨rfl,hbv⟩
 have zM:=hid (show Below w1.heap.size w1 v1 from (Below.refl w1.heap.size w1).drew.trans hbv)
 clear hbv
 go_wp2_with fail
 refine hK.out _ _ (zM.out) (fun hHeld=>?_)
 clear hK K
 try simp only [Act.put,pZ]
 refine rD 10 rfl fun K hK=>?_
 go_simp
 go_at_call 57
 refine (ace.out v1 zM.out).mono ?_
 rintro e w2 ⟨g1,c1,A1,rfl,hq⟩
 have D5:=hid hq
 clear hq
 go_wp2_with fail
 refine hK.out _ _ (zM.out.trans (D5.out.2.2.2.2.2.2.mono zM.out.size)) (fun hHeld=>?_)
 clear hK K
 try simp only [Act.put,pZ]
 refine tR 11 36 (h:=tR 12 48 (h:=tR 13 49 (h:=tR 14 50 (h:=tR 15 12 (h:=tR 16 13 (h:=tR 17 14 (h:=?_)))))))
 refine wpAnyH_done (by decide +kernel) ?_ _
 refine NoPanic.normal ?_
 have HB2:=hid (aJ (aJ HB1.out zM.out) D5.out.2.2.2.2.2.2)
 have t0:=ae s0 ((aJ zM.out D5.out.2.2.2.2.2.2).block _ (block_lt_of_cell s0))
 have t1:=ae s1 ((aJ zM.out D5.out.2.2.2.2.2.2).block _ (block_lt_of_cell s1))
 have kq:=ae cq (HB2.out.block _ (block_lt_of_cell cq))
 have acf:=hid (fun (W:World) (hW:Below w2.heap.size w2 W)=>Uw.out W (aJ HB2.out hW))
 have acg:=hid (fun (W:World) (hW:Below w2.heap.size w2 W)=>zK.out W (aJ HB2.out hW))
 clear s0 s1 kp cq Uw zK ace PI
 go_upto_region 9 with fail
 have s0:=t0
 have s1:=t1
 clear t0 t1
 try simp only [Act.put]
 refine wp_region_noPanic ?_
 refine wp_region_held_drew (S:=fun W=>Below w2.heap.size w2 W) (by kernel_rfl) (Below.refl _ w2).drew (fun hHeld=>?_)
 refine tR 0 55 (h:=tR 1 56 (h:=tR 2 57 (h:=tR 3 58 (h:=tR 4 59 (h:=?_)))))
 refine tK 5 60 (.pointer (dA (d+1) q.2.2)) rfl (Or.inl ⟨by rfl, ?_⟩) ?_
 ·(intro w' hSw; have q0:=ae kq (hSw.block _ (block_lt_of_cell kq)); go_simp; try with_reducible rfl)
 try simp only [Act.put,pZ]
 refine tK 6 61 (.agg #[.string f,.string s]) rfl (Or.inl ⟨by rfl, ?_⟩) ?_
 ·(intro w' hSw; have q0:=ae s0 (hSw.block _ (block_lt_of_cell s0)); have q1:=ae s1 (hSw.block _ (block_lt_of_cell s1)); go_simp; try with_reducible rfl)
 try simp only [Act.put,pZ]
 refine tR 7 62 (h:=tR 8 63 (h:=?_))
 refine rD 9 rfl fun K hK=>?_
 go_simp
 go_at_call 58
 refine (acg.out w2.drew (Below.refl _ w2).drew).mono ?_
 rintro e v2 ⟨rfl,hbv⟩
 have PK:=hid (show Below w2.heap.size w2 v2 from (Below.refl w2.heap.size w2).drew.trans hbv)
 clear hbv
 go_wp2_with fail
 refine hK.out _ _ (PK.out) (fun hHeld=>?_)
 clear hK K
 try simp only [Act.put,pZ]
 refine rD 10 rfl fun K hK=>?_
 go_simp
 go_at_call 57
 refine (acf.out v2 PK.out).mono ?_
 rintro e w3 ⟨g2,c2,A2,rfl,hq⟩
 have xK:=hid hq
 clear hq
 go_wp2_with fail
 refine hK.out _ _ (PK.out.trans (xK.out.2.2.2.2.2.2.mono PK.out.size)) (fun hHeld=>?_)
 clear hK K
 try simp only [Act.put,pZ]
 refine tR 11 54 (h:=tR 12 66 (h:=tR 13 67 (h:=tR 14 68 (h:=tR 15 15 (h:=tR 16 16 (h:=tR 17 14 (h:=?_)))))))
 refine wpAnyH_done (by decide +kernel) ?_ _
 refine NoPanic.normal ?_
 have ML:=hid (aJ PK.out xK.out.2.2.2.2.2.2)
 have HB3:=hid (aJ HB2.out ML.out)
 have kqk:=ae cqk (HB3.out.block _ (block_lt_of_cell cqk))
 have kpk:=ae cpk (HB3.out.block _ (block_lt_of_cell cpk))
 obtain ⟨hgA,hoA,hcA,ach,hsA,hkA,hbA⟩:=D5.out
 obtain ⟨hgB,hoB,hcB,aci,hsB,hkB,hbB⟩:=xK.out
 have eA:A1.length≤512:=by rw [iM hsA]; exact HNP.out.2.1
 have eB:A2.length≤512:=by rw [iM hsB]; exact HNP.out.2.2.2
 have nA:A1 ≠ []:=fun e=>HNP.out.1 (List.length_eq_zero_iff.1 (by rw [← iM hsA,e]; rfl))
 have nB:A2 ≠ []:=fun e=>HNP.out.2.2.1 (List.length_eq_zero_iff.1 (by rw [← iM hsB,e]; rfl))
 have gA0:w.heap.size≤g1:=Nat.le_trans (aJ HB1.out zM.out).size hgA
 have gA2:g1<w2.heap.size:=hoA.lt
 have gB0:w2.heap.size≤g2:=Nat.le_trans PK.out.size hgB
 have gAB:g1 ≠ g2:=by omega
 have hk3:∀ x ∈ A1++A2,TR LQ w3 (fun k=>(ok k∨w.heap.size≤k)∧k<w3.heap.size∧k ≠ g1∧k ≠ g2) d x.2.2:=by
  intro x hx;rcases List.mem_append.1 hx with hx | hx
  ·refine ((hkA x hx).bound.keep (fun k hk=>ML.out.block k hk.2)).more (fun _ _ h=>h) (fun k hk=>⟨?_,Nat.lt_of_lt_of_le hk.2 ML.out.size, ?_,by omega⟩)
   ·rcases hk.1 with e | e
    ·exact .inl e
    exact .inr (Nat.le_trans (aJ HB1.out zM.out).size e.1)
   rcases hk.1 with e | e
   ·have:=(qP.out k e).1; omega
   exact e.2
  refine (hkB x hx).bound.more (fun _ _ h=>h) (fun k hk=>⟨?_,hk.2, ?_, ?_⟩)
  ·rcases hk.1 with e | e
   ·exact .inl e
   exact .inr (Nat.le_trans (aJ HB2.out PK.out).size e.1)
  ·rcases hk.1 with e | e
   ·have:=(qP.out k e).1; omega
   have:=Nat.le_trans PK.out.size e.1; omega
  rcases hk.1 with e | e
  ·have:=(qP.out k e).1; have:=HB2.out.size; omega
  exact e.2
 have oA3:=hoA.below ML.out
 have HGG:=hid (And.intro gA0 (And.intro gA2 (And.intro gB0 gAB)))
 have Ip:=hid (And.intro hsA (And.intro hsB (And.intro nA (And.intro eA eB))))
 have HCC:=hid (And.intro ach aci)
 obtain rfl:d=0:=by simpa using IA.out
 have HM4:=hid (show Below w.heap.size w w3∧OB w3 g1 c1 0 A1∧OB w3 g2 c2 0 (oV 0 q.1 A2)∧∀ x ∈ A1++oV 0 q.1 A2,TR LQ w3 (fun k=>(ok k∨w.heap.size≤k)∧k<w3.heap.size∧k ≠ g1) 0 x.2.2 from ⟨HB3.out,oA3,hoB,fun x hx=>(hk3 x hx).more (fun _ _ h=>h) (fun k hk=>⟨hk.1,hk.2.1,hk.2.2.1⟩)⟩)
 go_upto_region 17 with fail
 have HB4:=HB3
 generalize ZN:w3=w4 at *
 clear ZN
 have kpl:=kpk
 clear kpk kqk
 clear hgA hoA hcA ach hsA hkA hbA hgB hoB hcB aci hsB hkB hbB eA eB nA nB gA0 gA2 gB0 gAB hk3 oA3 D5 xK acf acg kq cqk cpk
 obtain ⟨hm1,hm2,ZY,hm4⟩:=HM4.out
 obtain ⟨g5,c5,w5,hap,Gl,Wi,hg5⟩:=Py (hm2.below (Below.refl _ w4).drew) (ZY.below (Below.refl _ w4).drew) HCC.out.1 (by rw [zL]; have:=Ip.out; omega) Ip.out.2.2.1 121
 have Wi:=(Touch.of_below (l:=[g1]) (Below.refl w4.heap.size w4).drew).trans Wi
 have hg5:g5=g1∨g5=w4.heap.size:=hg5
 have zJ:=hid Gl
 have IB:=hid (And.intro Wi hg5)
 rw [zL] at hap
 obtain ⟨m5,uC⟩:∃ m,(A1++oV 0 q.1 A2).length=m:=⟨_,rfl⟩
 rw [uC] at hap
 have IJ:=hid uC
 have D9:=hid hap
 have h5l:w.heap.size≤g5:=by
  have:=HGG.out.1;have:=hm1.size;rcases hg5 with e | e <;> omega
 have hgl:=xH.out.lt
 have CP:=hid (And.intro h5l (And.intro (ae kpl (Wi.block g (block_lt_of_cell kpl) (by have:=HGG.out.1; simp only [List.mem_singleton]; omega))) (show g ≠ g5 by omega)))
 clear hm1 hm2 ZY hm4 Gl Wi hg5 hap h5l hgl uC
 try simp only [Act.put]
 refine wp_region_noPanic ?_
 refine wp_region_held_drew (S:=fun W=>W.cell? ⟨g,l * 3,none⟩=some (.string p.1)) (by kernel_rfl) kpl (fun hHeld=>?_)
 refine tR 0 96 (h:=tR 1 97 (h:=tR 2 98 (h:=tR 3 99 (h:=tR 4 100 (h:=tR 5 101 (h:=tR 6 102 (h:=tR 7 103 (h:=?_))))))))
 refine tK 8 104 (.string p.1) rfl (Or.inl ⟨by rfl, ?_⟩) ?_
 ·(intro w' hSw; have q0:=hSw; go_simp; try with_reducible rfl)
 try simp only [Act.put,pZ]
 refine tR 9 105 (h:=tR 10 106 (h:=tR 12 108 (h:=?_)))
 refine rD 11 rfl fun K hK=>?_
 refine kK rfl _ _ 121 121 rfl (.slice (some ⟨g1,0,none⟩) A1.length c1) (.slice (some ⟨g2,0,none⟩) A2.length c2) (by rfl) (by rfl) D9.out ?_
 refine hK.out _ _ (CP.out.2.1) (fun hHeld=>?_)
 clear hK K
 try simp only [Act.put,List.setIfInBounds_toArray]
 refine rD 13 rfl fun K hK=>?_
 go_simp
 go_at_call 91
 refine (HPA.out (fun k=>(ok k∨w.heap.size≤k)∧k<w4.heap.size∧k ≠ g1) g5 c5 A1 A2 Ip.out.1 Ip.out.2.1 w5 zJ.out (fun x hx=>(HM4.out.2.2.2 x hx).keep (fun k hk=>IB.out.1.block k hk.2.1 (by simpa using hk.2.2))) (fun k hk=>⟨Nat.lt_of_lt_of_le hk.2.1 IB.out.1.size,fun e=>by rcases IB.out.2 with e2 | e2; exact hk.2.2 (e.trans e2); have:=hk.2.1; omega⟩) m5 IJ.out).mono ?_
 rintro e w6 ⟨va,S,rfl,hpr,hst,PN,_⟩
 have kR:=hid (And.intro hpr (And.intro hst PN))
 have ny:=hid (ae CP.out.2.1 (PN.block g (block_lt_of_cell CP.out.2.1) (by simpa using CP.out.2.2)))
 clear hpr hst PN
 go_wp2_with fail
 refine hK.out _ _ (ny.out) (fun hHeld=>?_)
 clear hK K
 try simp only [Act.put,pZ]
 refine rD 14 rfl fun K hK=>?_
 go_simp
 go_at_call 123
 rw [HW2.out]
 have ack:Below w.heap.size w w6:=bC (bC HM4.out.1 IB.out.1 HGG.out.1) kR.out.2.2 CP.out.1
 refine (PG.out w6 (xH.out.move (ack.block g xH.out.lt)) va S (Gt kR.out.2.1 (by have h1:=xH.out.lt; have h2:=CP.out.1; have h3:=IB.out.1.size; have h4:=HM4.out.1.size; rintro (⟨e | e,_⟩ | e | e); exact (qP.out _ e).2 rfl; omega; omega; omega)) (Gs kR.out.1)).mono ?_
 obtain ⟨m7,hm7⟩:∃ m,(a++(S++b)).length=m:=⟨_,rfl⟩
 rw [hm7]
 rintro e w7 ⟨rfl,ho7,Gu⟩
 have hfin:=Pz (a:=a) (b:=b) (p:=p) (q:=q) (by rw [HLL.out]; exact xH.out) (by rw [HLL.out]; exact HK.out) qP.out HGG.out.1 HM4.out.1 IB.out.1 IB.out.2 kR.out.2.1 kR.out.2.2 Gu
 have jv:=hid (show vT LQ ok g c 0 p q a b w (.returned (.tuple #[.slice (some ⟨g,0,none⟩) m7 c,.int .i64 0])) w7 from ⟨A1,A2,S,by rw [hm7],Ip.out.1,Ip.out.2.1,kR.out.1,ho7,hfin.1,hfin.2⟩)
 have Wj:=hid (JJ kR.out.1 (fun e=>Ip.out.2.2.1 (List.append_eq_nil_iff.1 e).1) ho7 Ui.out.2)
 clear hfin ho7 Gu ack hm7
 go_wp2_with fail
 refine hK.out _ _ (Wj.out) (fun hHeld=>?_)
 clear hK K
 try simp only [Act.put,pZ]
 refine tR 15 8 (h:=tR 16 9 (h:=?_))
 refine wpAnyH_done (by decide +kernel) ?_ _
 refine NoPanic.normal ?_
 go_wp2_with fail
 go_ret2
 exact jv.out
theorem Uy (LQ:ay→az→Prop)(ok:Nat→Prop)(d t P g c i:Nat)(p q:bK (Kd (d+1)))(a b:Its (d+1))(rt:Value)(f s:ByteArray)(w:World)(hlf:(d == 0)=false)(ht:w.heap[t]? = some (.cells #[.pointer (some ⟨P,0,none⟩),rt] 94 (0,0)))(hr:RD LQ w P)(h:OB w g c (d+1) (a++p::q::b))(hi:a.length=i - 1)(hi2:i≤1000)(hc:(a++p::q::b).length+1≤c)(hc2:c≤1001)
 (hk:∀ x ∈ a++p::q::b,TR LQ w ok (d+1) x.2.2) (hok:∀ k,ok k→k<w.heap.size∧k ≠ g) (hop:qZ d (its p.2.2)) (hoq:qZ d (its q.2.2))
 (hcp:∀ A,bP d A (its p.2.2)→dH (oC (f,s) (a++p::q::b) a.length) (d == 0) A=A) (hcq:∀ A,bP d A (its q.2.2)→dH (oC (f,s) (a++p::q::b) (a.length+1)) (d == 0) A=A)
 (hM:∀ A B,bP d A (its p.2.2)→bP d B (its q.2.2)→Sm (A++oV d q.1 B)∧bf d (A++oV d q.1 B)≤1000000∧∀ x ∈ A++oV d q.1 B,nM (d == 0) x≤130) :
 Calls Tryz.prog 125 #[.pointer (some ⟨t,0,none⟩),.slice (some ⟨g,0,none⟩) (a++p::q::b).length c,.int .i64 (i:Nat),.agg #[.string f,.string s]] w fun e w'=>vT LQ ok g c d p q a b w e w':=by
 have Uu:=hid (fun (W:World) (hW:Below w.heap.size w W)=>pX LQ ok d t P false p.2.2 rt (oC (f,s) (a++p::q::b) a.length).1 (oC (f,s) (a++p::q::b) a.length).2 W ((hW.block t (lt_of_block ht)).trans ht) (hr.below hW) ((hk p (by simp)).below (fun k hk=>(hok k hk).1) hW) (fun k hk=>Nat.lt_of_lt_of_le (hok k hk).1 hW.size) hop hlf hcp)
 have Uw:=hid (fun (W:World) (hW:Below w.heap.size w W)=>pX LQ ok d t P false q.2.2 rt (oC (f,s) (a++p::q::b) (a.length+1)).1 (oC (f,s) (a++p::q::b) (a.length+1)).2 W ((hW.block t (lt_of_block ht)).trans ht) (hr.below hW) ((hk q (by simp)).below (fun k hk=>(hok k hk).1) hW) (fun k hk=>Nat.lt_of_lt_of_le (hok k hk).1 hW.size) hoq hlf hcq)
 have hcap:=h.cap
 have hlen:(a++p::q::b).length=a.length+2+b.length:=by simp; omega
 have MJ:=hid (fun (W:World) (hW:Below w.heap.size w W)=>pU (d+1) (some ⟨g,0,none⟩) (a++p::q::b).length c a.length (a++p::q::b) f s W (h.is.below hW) (by omega) (by omega))
 have zK:=hid (fun (W:World) (hW:Below w.heap.size w W)=>pU (d+1) (some ⟨g,0,none⟩) (a++p::q::b).length c (a.length+1) (a++p::q::b) f s W (h.is.below hW) (by omega) (by omega))
 have HPA:=hid (fun (ok':Nat→Prop) (g' c':Nat) (A B:Its d) (eA:bP d A (its p.2.2)) (eB:bP d B (its q.2.2)) (W:World) (hO:OB W g' c' d (A++oV d q.1 B)) (hK:∀ x ∈ A++oV d q.1 B,TR LQ W ok' d x.2.2) (hOK:∀ k,ok' k→k<W.heap.size∧k ≠ g') (m:Nat) (hm:(A++oV d q.1 B).length=m)=>PE (uh LQ ok' d g' c' p.1 (A++oV d q.1 B) W hO hK hOK (hM A B eA eB).1 (hM A B eA eB).2.1 hO.cap (hM A B eA eB).2.2) hm)
 have PG:=hid (fun (W:World) (hW:OB W g c (d+1) (a++p::q::b)) (va:bO) (S:Its (d+1)) (hv:VS W g va S.length (d+1) S) (hS:S.length≤2)=>yG (d+1) g c a.length (a.length+2) S.length va (a++p::q::b) S W hW hv (by omega) (by omega) hc (by omega) (by omega))
 have cp:=(h.at3 a.length p (by simp)).p
 have cpk:=(h.at3 a.length p (by simp)).k
 have hq1:(a++p::q::b)[a.length+1]? = some q:=by rw [List.getElem?_append_right (by omega),show a.length+1 - a.length=1 by omega]; rfl
 have cq:=(h.at3 (a.length+1) q hq1).p
 have cqk:=(h.at3 (a.length+1) q hq1).k
 have Ux:=bT g 0 (a++p::q::b).length c a.length (by omega)
 have MK:=bT g 0 (a++p::q::b).length c (a.length+1) (by omega)
 simp only [Nat.zero_add] at Ux MK
 have hmx:∀ (ts:Array TypeId) (T:TypeId) (W:World),(Builtin.max_ ts T #[.int .i64 ((i:Int) - 1),.int .i64 0]).run Tryz.prog W = .ok (.int .i64 (a.length:Int)) W:=fun ts T W=>Px ts T _ _ _ W (by split <;> omega)
 obtain ⟨ht1,ht2⟩:=take_at a b p q
 rw [ht1,ht2] at PG
 rw [hlf] at HPA
 have xH:=hid h
 have HK:=hid hk
 have qP:=hid hok
 have IA:=hid hlf
 have HNP:=hid (And.intro hop.some (And.intro hop.len (And.intro hoq.some hoq.len)))
 have hn2:¬ (((a++p::q::b).length:Int)=1):=by omega
 have hnI:((a++p::q::b).length:Int)≤1000:=by omega
 generalize hLL:a++p::q::b=L at *
 have HLL:=hid hLL
 obtain ⟨n,hn⟩:∃ n,L.length=n:=⟨_,rfl⟩
 rw [hn] at MJ zK PG Ux MK hn2 hnI hlen hc hcap ⊢
 obtain ⟨l,hl⟩:∃ l,a.length=l:=⟨_,rfl⟩
 rw [hl] at Uu Uw MJ zK PG cp cpk cq cqk Ux MK hmx hlen hi
 have lI:(l:Int)+1<(n:Int):=by omega
 have lJ:(l:Int)<(n:Int):=by omega
 have l0:(0:Int)≤(l:Int):=by omega
 have l1:(0:Int)≤(l:Int)+1:=by omega
 have iI:(i:Int)≤1000:=by omega
 have i0:(0:Int)≤(i:Int):=by omega
 have Ui:=hid (And.intro hn hl)
 have HW2:=hid (show IntKind.i64.wrap ((l:Int)+1+1)=(l:Int)+1+1 from IntWalk.i64_in _ (by omega))
 rw [show ((l+1:Nat):Int)=(l:Int)+1 by omega] at MK zK
 rw [show ((l+2:Nat):Int)=(l:Int)+1+1 by omega] at PG
 clear ht hr h hk hok hop hoq hcp hcq hM hlf hq1 ht1 ht2 hLL hn hl hlen hc hcap hi hi2
 go_in
 go_upto_region 6 with fail
 have HB1:=hid (aK w (.cells #[.string f,.string s] 96))
 have b0:=cell_of_row (w.alloc (.cells #[.string f,.string s] 96)) w.heap.size 0 _ _ _ (ah w _)
 have b1:=cell_of_row (w.alloc (.cells #[.string f,.string s] 96)) w.heap.size 1 _ _ _ (ah w _)
 generalize hW1:w.alloc (.cells #[.string f,.string s] 96)=w1 at *
 have s0:=b0
 have s1:=b1
 have kp:=ae cp (HB1.out.block _ (block_lt_of_cell cp))
 have ace:=hid (fun (W:World) (hW:Below w1.heap.size w1 W)=>Uu.out W (aJ HB1.out hW))
 have PI:=hid (fun (W:World) (hW:Below w1.heap.size w1 W)=>MJ.out W (aJ HB1.out hW))
 clear b0 b1 hW1 Uu MJ cp
 try simp only [Act.put]
 refine wp_region_noPanic ?_
 refine wp_region_held_drew (S:=fun W=>Below w1.heap.size w1 W) (by kernel_rfl) (Below.refl _ w1).drew (fun hHeld=>?_)
 refine tR 0 37 (h:=tR 1 38 (h:=tR 2 39 (h:=tR 3 40 (h:=tR 4 41 (h:=?_)))))
 refine tK 5 42 (.pointer (dA (d+1) p.2.2)) rfl (Or.inl ⟨by rfl, ?_⟩) ?_
 ·(intro w' hSw; have q0:=ae kp (hSw.block _ (block_lt_of_cell kp)); go_simp; try with_reducible rfl)
 try simp only [Act.put,pZ]
 refine tK 6 43 (.agg #[.string f,.string s]) rfl (Or.inl ⟨by rfl, ?_⟩) ?_
 ·(intro w' hSw; have q0:=ae s0 (hSw.block _ (block_lt_of_cell s0)); have q1:=ae s1 (hSw.block _ (block_lt_of_cell s1)); go_simp; try with_reducible rfl)
 try simp only [Act.put,pZ]
 refine tR 7 44 (h:=tR 8 45 (h:=?_))
 refine rD 9 rfl fun K hK=>?_
 go_simp
 go_at_call 58
 refine (PI.out w1.drew (Below.refl _ w1).drew).mono ?_
 rintro e v1 ⟨rfl,hbv⟩
 have zM:=hid (show Below w1.heap.size w1 v1 from (Below.refl w1.heap.size w1).drew.trans hbv)
 clear hbv
 go_wp2_with fail
 refine hK.out _ _ (zM.out) (fun hHeld=>?_)
 clear hK K
 try simp only [Act.put,pZ]
 refine rD 10 rfl fun K hK=>?_
 go_simp
 go_at_call 57
 refine (ace.out v1 zM.out).mono ?_
 rintro e w2 ⟨g1,c1,A1,rfl,hq⟩
 have D5:=hid hq
 clear hq
 go_wp2_with fail
 refine hK.out _ _ (zM.out.trans (D5.out.2.2.2.2.2.2.mono zM.out.size)) (fun hHeld=>?_)
 clear hK K
 try simp only [Act.put,pZ]
 refine tR 11 36 (h:=tR 12 48 (h:=tR 13 49 (h:=tR 14 50 (h:=tR 15 12 (h:=tR 16 13 (h:=tR 17 14 (h:=?_)))))))
 refine wpAnyH_done (by decide +kernel) ?_ _
 refine NoPanic.normal ?_
 have HB2:=hid (aJ (aJ HB1.out zM.out) D5.out.2.2.2.2.2.2)
 have t0:=ae s0 ((aJ zM.out D5.out.2.2.2.2.2.2).block _ (block_lt_of_cell s0))
 have t1:=ae s1 ((aJ zM.out D5.out.2.2.2.2.2.2).block _ (block_lt_of_cell s1))
 have kq:=ae cq (HB2.out.block _ (block_lt_of_cell cq))
 have acf:=hid (fun (W:World) (hW:Below w2.heap.size w2 W)=>Uw.out W (aJ HB2.out hW))
 have acg:=hid (fun (W:World) (hW:Below w2.heap.size w2 W)=>zK.out W (aJ HB2.out hW))
 clear s0 s1 kp cq Uw zK ace PI
 go_upto_region 9 with fail
 have s0:=t0
 have s1:=t1
 clear t0 t1
 try simp only [Act.put]
 refine wp_region_noPanic ?_
 refine wp_region_held_drew (S:=fun W=>Below w2.heap.size w2 W) (by kernel_rfl) (Below.refl _ w2).drew (fun hHeld=>?_)
 refine tR 0 55 (h:=tR 1 56 (h:=tR 2 57 (h:=tR 3 58 (h:=tR 4 59 (h:=?_)))))
 refine tK 5 60 (.pointer (dA (d+1) q.2.2)) rfl (Or.inl ⟨by rfl, ?_⟩) ?_
 ·(intro w' hSw; have q0:=ae kq (hSw.block _ (block_lt_of_cell kq)); go_simp; try with_reducible rfl)
 try simp only [Act.put,pZ]
 refine tK 6 61 (.agg #[.string f,.string s]) rfl (Or.inl ⟨by rfl, ?_⟩) ?_
 ·(intro w' hSw; have q0:=ae s0 (hSw.block _ (block_lt_of_cell s0)); have q1:=ae s1 (hSw.block _ (block_lt_of_cell s1)); go_simp; try with_reducible rfl)
 try simp only [Act.put,pZ]
 refine tR 7 62 (h:=tR 8 63 (h:=?_))
 refine rD 9 rfl fun K hK=>?_
 go_simp
 go_at_call 58
 refine (acg.out w2.drew (Below.refl _ w2).drew).mono ?_
 rintro e v2 ⟨rfl,hbv⟩
 have PK:=hid (show Below w2.heap.size w2 v2 from (Below.refl w2.heap.size w2).drew.trans hbv)
 clear hbv
 go_wp2_with fail
 refine hK.out _ _ (PK.out) (fun hHeld=>?_)
 clear hK K
 try simp only [Act.put,pZ]
 refine rD 10 rfl fun K hK=>?_
 go_simp
 go_at_call 57
 refine (acf.out v2 PK.out).mono ?_
 rintro e w3 ⟨g2,c2,A2,rfl,hq⟩
 have xK:=hid hq
 clear hq
 go_wp2_with fail
 refine hK.out _ _ (PK.out.trans (xK.out.2.2.2.2.2.2.mono PK.out.size)) (fun hHeld=>?_)
 clear hK K
 try simp only [Act.put,pZ]
 refine tR 11 54 (h:=tR 12 66 (h:=tR 13 67 (h:=tR 14 68 (h:=tR 15 15 (h:=tR 16 16 (h:=tR 17 14 (h:=?_)))))))
 refine wpAnyH_done (by decide +kernel) ?_ _
 refine NoPanic.normal ?_
 have ML:=hid (aJ PK.out xK.out.2.2.2.2.2.2)
 have HB3:=hid (aJ HB2.out ML.out)
 have kqk:=ae cqk (HB3.out.block _ (block_lt_of_cell cqk))
 have kpk:=ae cpk (HB3.out.block _ (block_lt_of_cell cpk))
 obtain ⟨hgA,hoA,hcA,ach,hsA,hkA,hbA⟩:=D5.out
 obtain ⟨hgB,hoB,hcB,aci,hsB,hkB,hbB⟩:=xK.out
 have eA:A1.length≤512:=by rw [iM hsA]; exact HNP.out.2.1
 have eB:A2.length≤512:=by rw [iM hsB]; exact HNP.out.2.2.2
 have nA:A1 ≠ []:=fun e=>HNP.out.1 (List.length_eq_zero_iff.1 (by rw [← iM hsA,e]; rfl))
 have nB:A2 ≠ []:=fun e=>HNP.out.2.2.1 (List.length_eq_zero_iff.1 (by rw [← iM hsB,e]; rfl))
 have gA0:w.heap.size≤g1:=Nat.le_trans (aJ HB1.out zM.out).size hgA
 have gA2:g1<w2.heap.size:=hoA.lt
 have gB0:w2.heap.size≤g2:=Nat.le_trans PK.out.size hgB
 have gAB:g1 ≠ g2:=by omega
 have hk3:∀ x ∈ A1++A2,TR LQ w3 (fun k=>(ok k∨w.heap.size≤k)∧k<w3.heap.size∧k ≠ g1∧k ≠ g2) d x.2.2:=by
  intro x hx;rcases List.mem_append.1 hx with hx | hx
  ·refine ((hkA x hx).bound.keep (fun k hk=>ML.out.block k hk.2)).more (fun _ _ h=>h) (fun k hk=>⟨?_,Nat.lt_of_lt_of_le hk.2 ML.out.size, ?_,by omega⟩)
   ·rcases hk.1 with e | e
    ·exact .inl e
    exact .inr (Nat.le_trans (aJ HB1.out zM.out).size e.1)
   rcases hk.1 with e | e
   ·have:=(qP.out k e).1; omega
   exact e.2
  refine (hkB x hx).bound.more (fun _ _ h=>h) (fun k hk=>⟨?_,hk.2, ?_, ?_⟩)
  ·rcases hk.1 with e | e
   ·exact .inl e
   exact .inr (Nat.le_trans (aJ HB2.out PK.out).size e.1)
  ·rcases hk.1 with e | e
   ·have:=(qP.out k e).1; omega
   have:=Nat.le_trans PK.out.size e.1; omega
  rcases hk.1 with e | e
  ·have:=(qP.out k e).1; have:=HB2.out.size; omega
  exact e.2
 have oA3:=hoA.below ML.out
 have HGG:=hid (And.intro gA0 (And.intro gA2 (And.intro gB0 gAB)))
 have Ip:=hid (And.intro hsA (And.intro hsB (And.intro nA (And.intro eA eB))))
 have HCC:=hid (And.intro ach aci)
 obtain ⟨d,rfl⟩:∃ e,d=e+1:=⟨d - 1,by have:=IA.out; simp at this; omega⟩
 have YG:=aV w3 g2 0 (.string q.1)
 have am0:Below w.heap.size w (w3.setCell ⟨g2,0,none⟩ (.string q.1)):=bC HB3.out YG (Nat.le_trans HB2.out.size gB0)
 have kpl:=ae kpk (YG.block g (block_lt_of_cell kpk) (by have:=xH.out.lt; have:=HB2.out.size; simp only [List.mem_singleton]; omega))
 have HM4:=hid (show Below w.heap.size w (w3.setCell ⟨g2,0,none⟩ (.string q.1))∧OB (w3.setCell ⟨g2,0,none⟩ (.string q.1)) g1 c1 (d+1) A1∧OB (w3.setCell ⟨g2,0,none⟩ (.string q.1)) g2 c2 (d+1) (oV (d+1) q.1 A2)∧∀ x ∈ A1++oV (d+1) q.1 A2,TR LQ (w3.setCell ⟨g2,0,none⟩ (.string q.1)) (fun k=>(ok k∨w.heap.size≤k)∧k<(w3.setCell ⟨g2,0,none⟩ (.string q.1)).heap.size∧k ≠ g1) (d+1) x.2.2 from by
  refine ⟨am0,oA3.move (YG.block g1 oA3.lt (by simpa using gAB)),aiP hoB nB q.1,fun x hx=>?_⟩;have hkk:∀ x ∈ A1++A2,TR LQ (w3.setCell ⟨g2,0,none⟩ (.string q.1)) (fun k=>(ok k∨w.heap.size≤k)∧k<(w3.setCell ⟨g2,0,none⟩ (.string q.1)).heap.size∧k ≠ g1) (d+1) x.2.2:=fun x hx=>((hk3 x hx).keep (fun k hk=>YG.block k hk.2.1 (by simpa using hk.2.2.2))).more (fun _ _ h=>h) (fun k hk=>⟨hk.1,Nat.lt_of_lt_of_le hk.2.1 YG.size,hk.2.2.1⟩)
  rcases List.mem_append.1 hx with hx | hx
  ·exact hkk x (List.mem_append.2 (.inl hx))
  exact aiQ q.1 (fun y hy=>hkk y (List.mem_append.2 (.inr hy))) x hx)
 obtain ⟨x0,hx0⟩:∃ x,A2[0]? = some x:=⟨_,List.getElem?_eq_getElem (List.length_pos_iff.2 nB)⟩
 have z0:=(hoB.at3 0 x0 hx0).k
 obtain ⟨rest,hrow,_⟩:=hoB.row
 have f0:=frozen_of_row w3 g2 0 _ _ hrow
 clear hrow hx0
 simp only [Nat.zero_mul] at z0
 have hz:=bT g2 0 A2.length c2 0 (by have:=List.length_pos_iff.2 nB; omega)
 simp only [Nat.zero_mul,Nat.add_zero] at hz
 have nB0:=List.length_pos_iff.2 nB
 clear am0 YG
 go_upto_region 17 with fail
 clear kpk kqk hz nB0 z0 f0
 generalize ZN:w3.setCell ⟨g2,0,none⟩ (.string q.1)=w4 at *
 clear ZN
 clear hgA hoA hcA ach hsA hkA hbA hgB hoB hcB aci hsB hkB hbB eA eB nA nB gA0 gA2 gB0 gAB hk3 oA3 D5 xK acf acg kq cqk cpk
 obtain ⟨hm1,hm2,ZY,hm4⟩:=HM4.out
 obtain ⟨g5,c5,w5,hap,Gl,Wi,hg5⟩:=Py (hm2.below (Below.refl _ w4).drew) (ZY.below (Below.refl _ w4).drew) HCC.out.1 (by rw [zL]; have:=Ip.out; omega) Ip.out.2.2.1 121
 have Wi:=(Touch.of_below (l:=[g1]) (Below.refl w4.heap.size w4).drew).trans Wi
 have hg5:g5=g1∨g5=w4.heap.size:=hg5
 have zJ:=hid Gl
 have IB:=hid (And.intro Wi hg5)
 rw [zL] at hap
 obtain ⟨m5,uC⟩:∃ m,(A1++oV (d+1) q.1 A2).length=m:=⟨_,rfl⟩
 rw [uC] at hap
 have IJ:=hid uC
 have D9:=hid hap
 have h5l:w.heap.size≤g5:=by
  have:=HGG.out.1;have:=hm1.size;rcases hg5 with e | e <;> omega
 have hgl:=xH.out.lt
 have CP:=hid (And.intro h5l (And.intro (ae kpl (Wi.block g (block_lt_of_cell kpl) (by have:=HGG.out.1; simp only [List.mem_singleton]; omega))) (show g ≠ g5 by omega)))
 clear hm1 hm2 ZY hm4 Gl Wi hg5 hap h5l hgl uC
 try simp only [Act.put]
 refine wp_region_noPanic ?_
 refine wp_region_held_drew (S:=fun W=>W.cell? ⟨g,l * 3,none⟩=some (.string p.1)) (by kernel_rfl) kpl (fun hHeld=>?_)
 refine tR 0 96 (h:=tR 1 97 (h:=tR 2 98 (h:=tR 3 99 (h:=tR 4 100 (h:=tR 5 101 (h:=tR 6 102 (h:=tR 7 103 (h:=?_))))))))
 refine tK 8 104 (.string p.1) rfl (Or.inl ⟨by rfl, ?_⟩) ?_
 ·(intro w' hSw; have q0:=hSw; go_simp; try with_reducible rfl)
 try simp only [Act.put,pZ]
 refine tR 9 105 (h:=tR 10 106 (h:=tR 12 108 (h:=?_)))
 refine rD 11 rfl fun K hK=>?_
 refine kK rfl _ _ 121 121 rfl (.slice (some ⟨g1,0,none⟩) A1.length c1) (.slice (some ⟨g2,0,none⟩) A2.length c2) (by rfl) (by rfl) D9.out ?_
 refine hK.out _ _ (CP.out.2.1) (fun hHeld=>?_)
 clear hK K
 try simp only [Act.put,List.setIfInBounds_toArray]
 refine rD 13 rfl fun K hK=>?_
 go_simp
 go_at_call 91
 refine (HPA.out (fun k=>(ok k∨w.heap.size≤k)∧k<w4.heap.size∧k ≠ g1) g5 c5 A1 A2 Ip.out.1 Ip.out.2.1 w5 zJ.out (fun x hx=>(HM4.out.2.2.2 x hx).keep (fun k hk=>IB.out.1.block k hk.2.1 (by simpa using hk.2.2))) (fun k hk=>⟨Nat.lt_of_lt_of_le hk.2.1 IB.out.1.size,fun e=>by rcases IB.out.2 with e2 | e2; exact hk.2.2 (e.trans e2); have:=hk.2.1; omega⟩) m5 IJ.out).mono ?_
 rintro e w6 ⟨va,S,rfl,hpr,hst,PN,_⟩
 have kR:=hid (And.intro hpr (And.intro hst PN))
 have ny:=hid (ae CP.out.2.1 (PN.block g (block_lt_of_cell CP.out.2.1) (by simpa using CP.out.2.2)))
 clear hpr hst PN
 go_wp2_with fail
 refine hK.out _ _ (ny.out) (fun hHeld=>?_)
 clear hK K
 try simp only [Act.put,pZ]
 refine rD 14 rfl fun K hK=>?_
 go_simp
 go_at_call 123
 rw [HW2.out]
 have ack:Below w.heap.size w w6:=bC (bC HM4.out.1 IB.out.1 HGG.out.1) kR.out.2.2 CP.out.1
 refine (PG.out w6 (xH.out.move (ack.block g xH.out.lt)) va S (Gt kR.out.2.1 (by have h1:=xH.out.lt; have h2:=CP.out.1; have h3:=IB.out.1.size; have h4:=HM4.out.1.size; rintro (⟨e | e,_⟩ | e | e); exact (qP.out _ e).2 rfl; omega; omega; omega)) (Gs kR.out.1)).mono ?_
 obtain ⟨m7,hm7⟩:∃ m,(a++(S++b)).length=m:=⟨_,rfl⟩
 rw [hm7]
 rintro e w7 ⟨rfl,ho7,Gu⟩
 have hfin:=Pz (a:=a) (b:=b) (p:=p) (q:=q) (by rw [HLL.out]; exact xH.out) (by rw [HLL.out]; exact HK.out) qP.out HGG.out.1 HM4.out.1 IB.out.1 IB.out.2 kR.out.2.1 kR.out.2.2 Gu
 have jv:=hid (show vT LQ ok g c (d+1) p q a b w (.returned (.tuple #[.slice (some ⟨g,0,none⟩) m7 c,.int .i64 0])) w7 from ⟨A1,A2,S,by rw [hm7],Ip.out.1,Ip.out.2.1,kR.out.1,ho7,hfin.1,hfin.2⟩)
 have Wj:=hid (JJ kR.out.1 (fun e=>Ip.out.2.2.1 (List.append_eq_nil_iff.1 e).1) ho7 Ui.out.2)
 clear hfin ho7 Gu ack hm7
 go_wp2_with fail
 refine hK.out _ _ (Wj.out) (fun hHeld=>?_)
 clear hK K
 try simp only [Act.put,pZ]
 refine tR 15 8 (h:=tR 16 9 (h:=?_))
 refine wpAnyH_done (by decide +kernel) ?_ _
 refine NoPanic.normal ?_
 go_wp2_with fail
 go_ret2
 exact jv.out
theorem PQ (LQ:ay→az→Prop)(ok:Nat→Prop)(d t P g c i:Nat)(p q:bK (Kd (d+1)))(a b:Its (d+1))(rt:Value)(f s:ByteArray)(w:World)(ht:w.heap[t]? = some (.cells #[.pointer (some ⟨P,0,none⟩),rt] 94 (0,0)))(hr:RD LQ w P)(h:OB w g c (d+1) (a++p::q::b))(hi:a.length=i - 1)(hi2:i≤1000)(hc:(a++p::q::b).length+1≤c)(hc2:c≤1001)
 (hk:∀ x ∈ a++p::q::b,TR LQ w ok (d+1) x.2.2) (hok:∀ k,ok k→k<w.heap.size∧k ≠ g) (hop:qZ d (its p.2.2)) (hoq:qZ d (its q.2.2))
 (hcp:∀ A,bP d A (its p.2.2)→dH (oC (f,s) (a++p::q::b) a.length) (d == 0) A=A) (hcq:∀ A,bP d A (its q.2.2)→dH (oC (f,s) (a++p::q::b) (a.length+1)) (d == 0) A=A)
 (hM:∀ A B,bP d A (its p.2.2)→bP d B (its q.2.2)→Sm (A++oV d q.1 B)∧bf d (A++oV d q.1 B)≤1000000∧∀ x ∈ A++oV d q.1 B,nM (d == 0) x≤130) :
 Calls Tryz.prog 125 #[.pointer (some ⟨t,0,none⟩),.slice (some ⟨g,0,none⟩) (a++p::q::b).length c,.int .i64 (i:Nat),.agg #[.string f,.string s]] w fun e w'=>vT LQ ok g c d p q a b w e w':=by
 match h0:(d == 0) with
 | true=>exact YF LQ ok d t P g c i p q a b rt f s w h0 ht hr h hi hi2 hc hc2 hk hok hop hoq hcp hcq hM
 | false=>exact Uy LQ ok d t P g c i p q a b rt f s w h0 ht hr h hi hi2 hc hc2 hk hok hop hoq hcp hcq hM
end Go.Proofs.YtljjcbmkbmloaaaGreatDoor
