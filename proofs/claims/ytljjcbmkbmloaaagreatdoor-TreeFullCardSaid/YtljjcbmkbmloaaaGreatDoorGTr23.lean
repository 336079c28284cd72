import Derived.Test.YtljjcbmkbmloaaaGreatDoorGTr22
import Derived.Test.YtljjcbmkbmloaaaGreatDoorGTrA
namespace Go.Proofs.YtljjcbmkbmloaaaGreatDoor
set_option maxHeartbeats 3200000
set_option maxRecDepth 100000
set_option linter.unusedVariables false
open Lib (hid)
open Go.ChangeShapes Go.WideShapes Go.ChangeAt Go.RowKit
theorem O6 {LQ:ay→aC→Prop}{ok:Nat→Prop}{g c gA g5 d vc:Nat}{va:bO}{S a b:Its (d+1)}{p q:bM (Kd (d+1))}{w w4 w5 w6 w7:World}(hL:OB w g c (d+1) (a++p::q::b))(hk:∀ x ∈ a++p::q::b,TR LQ w ok (d+1) x.2.2)(hok:∀ k,ok k→k<w.heap.size∧k ≠ g)
 (hgA:w.heap.size≤gA) (h4:Below w.heap.size w w4) (h5:Touch [gA] w4 w5) (h5g:g5=gA∨g5=w4.heap.size) (hS:jK LQ w6 (fun k=>((ok k∨w.heap.size≤k)∧k<w4.heap.size∧k ≠ gA)∨k=g5∨w5.heap.size≤k) d va vc S) (h6:Touch [g5] w5 w6) (h7:Touch [g] w6 w7) :
 (∀ x ∈ a++(S++b),TR LQ w7 (fun k=>ok k∨w.heap.size≤k) (d+1) x.2.2)∧Touch [g] w w7:=by
 have hg:=hL.lt
 have h5l:w.heap.size≤g5:=by
  rcases h5g with rfl | rfl
  ·exact hgA
  ·exact h4.size
 have hb:Below w.heap.size w w6:=bC (bC h4 h5 hgA) h6 h5l
 have hT:Touch [g] w w7:=(Touch.of_below hb).trans h7
 refine ⟨fun x hx=>?_,hT⟩
 rcases List.mem_append.1 hx with hx | hx
 ·exact ((hk x (by simp [hx])).keep (fun k hk=>hT.block k (hok k hk).1 (by simpa using (hok k hk).2))).more (fun _ _ h=>h) (fun k hk => .inl hk)
 ·rcases List.mem_append.1 hx with hx | hx
  ·refine ((hS.kids x hx).bound.keep (fun k hk=>h7.block k hk.2 ?_)).more (fun _ _ h=>h) (fun k hk=>?_)
   ·simp only [List.mem_singleton]
    rintro rfl
    rcases hk.1 with ⟨e | e,_⟩ | e | e
    ·exact (hok _ e).2 rfl
    ·omega
    ·omega
    ·have:=h4.size; have:=h5.size; omega
   ·rcases hk.1 with ⟨e,_⟩ | e | e
    ·exact e
    ·right; omega
    ·right; have:=h4.size; have:=h5.size; omega
  ·exact ((hk x (by simp [hx])).keep (fun k hk=>hT.block k (hok k hk).1 (by simpa using (hok k hk).2))).more (fun _ _ h=>h) (fun k hk => .inl hk)
theorem take_at {κ:Type}(a b:List κ)(p q:κ):(a++p::q::b).take a.length=a∧(a++p::q::b).drop (a.length+2)=b:=by
 refine ⟨List.take_left, ?_⟩
 rw [← List.drop_drop,List.drop_left]
 rfl
theorem O7 {LQ:ay→aC→Prop}{ok:Nat→Prop}{d g c:Nat}{fr:ByteArray}{L:Its d}{w:World}(h:Calls Tryz.prog 91 #[.string fr,.slice (some ⟨g,0,none⟩) L.length c,.bool (d == 0)] w fun e w'=>∃ va S,e = .returned (.slice va S.length S.length)∧gX d fr L S∧jK LQ w' (fun k=>ok k∨k=g∨w.heap.size≤k) d va S.length S∧Touch [g] w w'∧∀ b,va=some b→w.heap.size≤b.block∧∀ x ∈ S,TR LQ w' (fun k=>(ok k∨k=g∨w.heap.size≤k)∧k ≠ b.block) (d+1) x.2.2){m:Nat}(hm:L.length=m) :
 Calls Tryz.prog 91 #[.string fr,.slice (some ⟨g,0,none⟩) m c,.bool (d == 0)] w fun e w'=>∃ va S,e = .returned (.slice va S.length S.length)∧gX d fr L S∧jK LQ w' (fun k=>ok k∨k=g∨w.heap.size≤k) d va S.length S∧Touch [g] w w'∧∀ b,va=some b→w.heap.size≤b.block∧∀ x ∈ S,TR LQ w' (fun k=>(ok k∨k=g∨w.heap.size≤k)∧k ≠ b.block) (d+1) x.2.2:=by
 subst hm; exact h
theorem Jm {W:World}{g c d l:Nat}{fr:ByteArray}{L:Its d}{S a b:Its (d+1)}(h:gX d fr L S)(hne:L ≠ [])(ho:OB W g c (d+1) (a++(S++b)))(hl:a.length=l):W.cell? ⟨g,l * 3,none⟩=some (.string fr):=by
 subst hl
 have q:∀ x r,S=x::r→W.cell? ⟨g,a.length * 3,none⟩=some (.string x.1):=fun x r e=>(ho.at3 a.length x (by subst e; simp)).k
 cases h with
 | none h=>exact absurd h hne
 | one a h1 h2=>exact q _ _ rfl
 | two i y a b h1 h2 h3=>exact q _ _ rfl
theorem Ye (LQ:ay→aC→Prop)(ok:Nat→Prop)(d t P g c i:Nat)(p q:bM (Kd (d+1)))(a b:Its (d+1))(rt:Value)(f s:ByteArray)(w:World)(hlf:(d == 0)=true)(ht:w.heap[t]? = some (.cells #[.pointer (some ⟨P,0,none⟩),rt] 94 (0,0)))(hr:RD LQ w P)(h:OB w g c (d+1) (a++p::q::b))(hi:a.length=i - 1)(hi2:i≤1000)(hc:(a++p::q::b).length+1≤c)(hc2:c≤1001)
 (hk:∀ x ∈ a++p::q::b,TR LQ w ok (d+1) x.2.2) (hok:∀ k,ok k→k<w.heap.size∧k ≠ g) (hop:qW d (its p.2.2)) (hoq:qW d (its q.2.2))
 (hcp:∀ A,bP d A (its p.2.2)→dD (nR (f,s) (a++p::q::b) a.length) (d == 0) A=A) (hcq:∀ A,bP d A (its q.2.2)→dD (nR (f,s) (a++p::q::b) (a.length+1)) (d == 0) A=A)
 (hM:∀ A B,bP d A (its p.2.2)→bP d B (its q.2.2)→Sm (A++oH d q.1 B)∧bg d (A++oH d q.1 B)≤1000000∧∀ x ∈ A++oH d q.1 B,mZ (d == 0) x≤130) :
 Calls Tryz.prog 125 #[.pointer (some ⟨t,0,none⟩),.slice (some ⟨g,0,none⟩) (a++p::q::b).length c,.int .i64 (i:Nat),.agg #[.string f,.string s]] w fun e w'=>vG LQ ok g c d p q a b w e w':=by
 have Ua:=hid (fun (W:World) (hW:Below w.heap.size w W)=>o6 LQ ok d t P true p.2.2 rt (nR (f,s) (a++p::q::b) a.length).1 (nR (f,s) (a++p::q::b) a.length).2 W ((hW.block t (lt_of_block ht)).trans ht) (hr.below hW) ((hk p (by simp)).below (fun k hk=>(hok k hk).1) hW) (fun k hk=>Nat.lt_of_lt_of_le (hok k hk).1 hW.size) hop hlf hcp)
 have Ub:=hid (fun (W:World) (hW:Below w.heap.size w W)=>o6 LQ ok d t P true q.2.2 rt (nR (f,s) (a++p::q::b) (a.length+1)).1 (nR (f,s) (a++p::q::b) (a.length+1)).2 W ((hW.block t (lt_of_block ht)).trans ht) (hr.below hW) ((hk q (by simp)).below (fun k hk=>(hok k hk).1) hW) (fun k hk=>Nat.lt_of_lt_of_le (hok k hk).1 hW.size) hoq hlf hcq)
 have hcap:=h.cap
 have hlen:(a++p::q::b).length=a.length+2+b.length:=by simp; omega
 have Lm:=hid (fun (W:World) (hW:Below w.heap.size w W)=>oV (d+1) (some ⟨g,0,none⟩) (a++p::q::b).length c a.length (a++p::q::b) f s W (h.is.below hW) (by omega) (by omega))
 have zF:=hid (fun (W:World) (hW:Below w.heap.size w W)=>oV (d+1) (some ⟨g,0,none⟩) (a++p::q::b).length c (a.length+1) (a++p::q::b) f s W (h.is.below hW) (by omega) (by omega))
 have HPA:=hid (fun (ok':Nat→Prop) (g' c':Nat) (A B:Its d) (eA:bP d A (its p.2.2)) (eB:bP d B (its q.2.2)) (W:World) (hO:OB W g' c' d (A++oH d q.1 B)) (hK:∀ x ∈ A++oH d q.1 B,TR LQ W ok' d x.2.2) (hOK:∀ k,ok' k→k<W.heap.size∧k ≠ g') (m:Nat) (hm:(A++oH d q.1 B).length=m)=>O7 (tC LQ ok' d g' c' p.1 (A++oH d q.1 B) W hO hK hOK (hM A B eA eB).1 (hM A B eA eB).2.1 hO.cap (hM A B eA eB).2.2) hm)
 have O8:=hid (fun (W:World) (hW:OB W g c (d+1) (a++p::q::b)) (va:bO) (S:Its (d+1)) (hv:VS W g va S.length (d+1) S) (hS:S.length≤2)=>yA (d+1) g c a.length (a.length+2) S.length va (a++p::q::b) S W hW hv (by omega) (by omega) hc (by omega) (by omega))
 have cp:=(h.at3 a.length p (by simp)).p
 have cpk:=(h.at3 a.length p (by simp)).k
 have hq1:(a++p::q::b)[a.length+1]? = some q:=by rw [List.getElem?_append_right (by omega),show a.length+1 - a.length=1 by omega]; rfl
 have cq:=(h.at3 (a.length+1) q hq1).p
 have cqk:=(h.at3 (a.length+1) q hq1).k
 have Uc:=bT g 0 (a++p::q::b).length c a.length (by omega)
 have Lp:=bT g 0 (a++p::q::b).length c (a.length+1) (by omega)
 simp only [Nat.zero_add] at Uc Lp
 have hmx:∀ (ts:Array TypeId) (T:TypeId) (W:World),(Builtin.max_ ts T #[.int .i64 ((i:Int) - 1),.int .i64 0]).run Tryz.prog W = .ok (.int .i64 (a.length:Int)) W:=fun ts T W=>O0 ts T _ _ _ W (by split <;> omega)
 obtain ⟨ht1,ht2⟩:=take_at a b p q
 rw [ht1,ht2] at O8
 rw [hlf] at HPA
 have xw:=hid h
 have HK:=hid hk
 have pG:=hid hok
 have CZ:=hid hlf
 have HNP:=hid (And.intro hop.some (And.intro hop.len (And.intro hoq.some hoq.len)))
 have hn2:¬ (((a++p::q::b).length:Int)=1):=by omega
 have hnI:((a++p::q::b).length:Int)≤1000:=by omega
 generalize hLL:a++p::q::b=L at *
 have HLL:=hid hLL
 obtain ⟨n,hn⟩:∃ n,L.length=n:=⟨_,rfl⟩
 rw [hn] at Lm zF O8 Uc Lp hn2 hnI hlen hc hcap ⊢
 obtain ⟨l,hl⟩:∃ l,a.length=l:=⟨_,rfl⟩
 rw [hl] at Ua Ub Lm zF O8 cp cpk cq cqk Uc Lp hmx hlen hi
 have lI:(l:Int)+1<(n:Int):=by omega
 have lJ:(l:Int)<(n:Int):=by omega
 have l0:(0:Int)≤(l:Int):=by omega
 have l1:(0:Int)≤(l:Int)+1:=by omega
 have iI:(i:Int)≤1000:=by omega
 have i0:(0:Int)≤(i:Int):=by omega
 have X7:=hid (And.intro hn hl)
 have HW2:=hid (show IntKind.i64.wrap ((l:Int)+1+1)=(l:Int)+1+1 from IntWalk.i64_in _ (by omega))
 rw [show ((l+1:Nat):Int)=(l:Int)+1 by omega] at Lp zF
 rw [show ((l+2:Nat):Int)=(l:Int)+1+1 by omega] at O8
 clear ht hr h hk hok hop hoq hcp hcq hM hlf hq1 ht1 ht2 hLL hn hl hlen hc hcap hi hi2
 go_enter Tryz.func125,Tryz.ntmps125
 go_upto_region 6 with fail
 have HB1:=hid (aJ w (.cells #[.string f,.string s] 96))
 have b0:=cell_of_row (w.alloc (.cells #[.string f,.string s] 96)) w.heap.size 0 _ _ _ (ah w _)
 have b1:=cell_of_row (w.alloc (.cells #[.string f,.string s] 96)) w.heap.size 1 _ _ _ (ah w _)
 generalize hW1:w.alloc (.cells #[.string f,.string s] 96)=w1 at *
 have s0:=b0
 have s1:=b1
 have kp:=ae cp (HB1.out.block _ (block_lt_of_cell cp))
 have abZ:=hid (fun (W:World) (hW:Below w1.heap.size w1 W)=>Ua.out W (aK HB1.out hW))
 have O9:=hid (fun (W:World) (hW:Below w1.heap.size w1 W)=>Lm.out W (aK HB1.out hW))
 clear b0 b1 hW1 Ua Lm cp
 try simp only [Act.put]
 refine wp_region_noPanic ?_
 refine wp_region_held_drew (S:=fun W=>Below w1.heap.size w1 W) (by kernel_rfl) (Below.refl _ w1).drew (fun hHeld=>?_)
 refine tR 0 37 (h:=tR 1 38 (h:=tR 2 39 (h:=tR 3 40 (h:=tR 4 41 (h:=?_)))))
 refine tK 5 42 (.pointer (di (d+1) p.2.2)) rfl (Or.inl ⟨by rfl, ?_⟩) ?_
 ·(intro w' hSw; have q0:=ae kp (hSw.block _ (block_lt_of_cell kp)); go_simp; try with_reducible rfl)
 try simp only [Act.put,pZ]
 refine tK 6 43 (.agg #[.string f,.string s]) rfl (Or.inl ⟨by rfl, ?_⟩) ?_
 ·(intro w' hSw; have q0:=ae s0 (hSw.block _ (block_lt_of_cell s0)); have q1:=ae s1 (hSw.block _ (block_lt_of_cell s1)); go_simp; try with_reducible rfl)
 try simp only [Act.put,pZ]
 refine tR 7 44 (h:=tR 8 45 (h:=?_))
 refine rD 9 rfl fun K hK=>?_
 go_simp
 go_at_call 58
 refine (O9.out w1.drew (Below.refl _ w1).drew).mono ?_
 rintro e v1 ⟨rfl,hbv⟩
 have zH:=hid (show Below w1.heap.size w1 v1 from (Below.refl w1.heap.size w1).drew.trans hbv)
 clear hbv
 go_wp2_with fail
 refine hK.out _ _ (zH.out) (fun hHeld=>?_)
 clear hK K
 try simp only [Act.put,pZ]
 refine rD 10 rfl fun K hK=>?_
 go_simp
 go_at_call 57
 refine (abZ.out v1 zH.out).mono ?_
 rintro e w2 ⟨g1,c1,A1,rfl,hq⟩
 have Dz:=hid hq
 clear hq
 go_wp2_with fail
 refine hK.out _ _ (zH.out.trans (Dz.out.2.2.2.2.2.2.mono zH.out.size)) (fun hHeld=>?_)
 clear hK K
 try simp only [Act.put,pZ]
 refine tR 11 36 (h:=tR 12 48 (h:=tR 13 49 (h:=tR 14 50 (h:=tR 15 12 (h:=tR 16 13 (h:=tR 17 14 (h:=?_)))))))
 refine wpAnyH_done (by decide +kernel) ?_ _
 refine NoPanic.normal ?_
 have HB2:=hid (aK (aK HB1.out zH.out) Dz.out.2.2.2.2.2.2)
 have t0:=ae s0 ((aK zH.out Dz.out.2.2.2.2.2.2).block _ (block_lt_of_cell s0))
 have t1:=ae s1 ((aK zH.out Dz.out.2.2.2.2.2.2).block _ (block_lt_of_cell s1))
 have kq:=ae cq (HB2.out.block _ (block_lt_of_cell cq))
 have ab1:=hid (fun (W:World) (hW:Below w2.heap.size w2 W)=>Ub.out W (aK HB2.out hW))
 have ab2:=hid (fun (W:World) (hW:Below w2.heap.size w2 W)=>zF.out W (aK HB2.out hW))
 clear s0 s1 kp cq Ub zF abZ O9
 go_upto_region 9 with fail
 have s0:=t0
 have s1:=t1
 clear t0 t1
 try simp only [Act.put]
 refine wp_region_noPanic ?_
 refine wp_region_held_drew (S:=fun W=>Below w2.heap.size w2 W) (by kernel_rfl) (Below.refl _ w2).drew (fun hHeld=>?_)
 refine tR 0 55 (h:=tR 1 56 (h:=tR 2 57 (h:=tR 3 58 (h:=tR 4 59 (h:=?_)))))
 refine tK 5 60 (.pointer (di (d+1) q.2.2)) rfl (Or.inl ⟨by rfl, ?_⟩) ?_
 ·(intro w' hSw; have q0:=ae kq (hSw.block _ (block_lt_of_cell kq)); go_simp; try with_reducible rfl)
 try simp only [Act.put,pZ]
 refine tK 6 61 (.agg #[.string f,.string s]) rfl (Or.inl ⟨by rfl, ?_⟩) ?_
 ·(intro w' hSw; have q0:=ae s0 (hSw.block _ (block_lt_of_cell s0)); have q1:=ae s1 (hSw.block _ (block_lt_of_cell s1)); go_simp; try with_reducible rfl)
 try simp only [Act.put,pZ]
 refine tR 7 62 (h:=tR 8 63 (h:=?_))
 refine rD 9 rfl fun K hK=>?_
 go_simp
 go_at_call 58
 refine (ab2.out w2.drew (Below.refl _ w2).drew).mono ?_
 rintro e v2 ⟨rfl,hbv⟩
 have Pg:=hid (show Below w2.heap.size w2 v2 from (Below.refl w2.heap.size w2).drew.trans hbv)
 clear hbv
 go_wp2_with fail
 refine hK.out _ _ (Pg.out) (fun hHeld=>?_)
 clear hK K
 try simp only [Act.put,pZ]
 refine rD 10 rfl fun K hK=>?_
 go_simp
 go_at_call 57
 refine (ab1.out v2 Pg.out).mono ?_
 rintro e w3 ⟨g2,c2,A2,rfl,hq⟩
 have xx:=hid hq
 clear hq
 go_wp2_with fail
 refine hK.out _ _ (Pg.out.trans (xx.out.2.2.2.2.2.2.mono Pg.out.size)) (fun hHeld=>?_)
 clear hK K
 try simp only [Act.put,pZ]
 refine tR 11 54 (h:=tR 12 66 (h:=tR 13 67 (h:=tR 14 68 (h:=tR 15 15 (h:=tR 16 16 (h:=tR 17 14 (h:=?_)))))))
 refine wpAnyH_done (by decide +kernel) ?_ _
 refine NoPanic.normal ?_
 have Lr:=hid (aK Pg.out xx.out.2.2.2.2.2.2)
 have HB3:=hid (aK HB2.out Lr.out)
 have kqk:=ae cqk (HB3.out.block _ (block_lt_of_cell cqk))
 have kpk:=ae cpk (HB3.out.block _ (block_lt_of_cell cpk))
 obtain ⟨hgA,hoA,hcA,ab4,hsA,Ph,MO⟩:=Dz.out
 obtain ⟨hgB,hoB,hcB,ab5,hsB,hkB,hbB⟩:=xx.out
 have eA:A1.length≤512:=by rw [iG hsA]; exact HNP.out.2.1
 have eB:A2.length≤512:=by rw [iG hsB]; exact HNP.out.2.2.2
 have nA:A1 ≠ []:=fun e=>HNP.out.1 (List.length_eq_zero_iff.1 (by rw [← iG hsA,e]; rfl))
 have nB:A2 ≠ []:=fun e=>HNP.out.2.2.1 (List.length_eq_zero_iff.1 (by rw [← iG hsB,e]; rfl))
 have gA0:w.heap.size≤g1:=Nat.le_trans (aK HB1.out zH.out).size hgA
 have gA2:g1<w2.heap.size:=hoA.lt
 have gB0:w2.heap.size≤g2:=Nat.le_trans Pg.out.size hgB
 have gAB:g1 ≠ g2:=by omega
 have hk3:∀ x ∈ A1++A2,TR LQ w3 (fun k=>(ok k∨w.heap.size≤k)∧k<w3.heap.size∧k ≠ g1∧k ≠ g2) d x.2.2:=by
  intro x hx
  rcases List.mem_append.1 hx with hx | hx
  ·refine ((Ph x hx).bound.keep (fun k hk=>Lr.out.block k hk.2)).more (fun _ _ h=>h) (fun k hk=>⟨?_,Nat.lt_of_lt_of_le hk.2 Lr.out.size, ?_,by omega⟩)
   ·rcases hk.1 with e | e
    ·exact .inl e
    ·exact .inr (Nat.le_trans (aK HB1.out zH.out).size e.1)
   ·rcases hk.1 with e | e
    ·have:=(pG.out k e).1; omega
    ·exact e.2
  ·refine (hkB x hx).bound.more (fun _ _ h=>h) (fun k hk=>⟨?_,hk.2, ?_, ?_⟩)
   ·rcases hk.1 with e | e
    ·exact .inl e
    ·exact .inr (Nat.le_trans (aK HB2.out Pg.out).size e.1)
   ·rcases hk.1 with e | e
    ·have:=(pG.out k e).1; omega
    ·have:=Nat.le_trans Pg.out.size e.1; omega
   ·rcases hk.1 with e | e
    ·have:=(pG.out k e).1; have:=HB2.out.size; omega
    ·exact e.2
 have oA3:=hoA.below Lr.out
 have HGG:=hid (And.intro gA0 (And.intro gA2 (And.intro gB0 gAB)))
 have GZ:=hid (And.intro hsA (And.intro hsB (And.intro nA (And.intro eA eB))))
 have HCC:=hid (And.intro ab4 ab5)
 obtain rfl:d=0:=by simpa using CZ.out
 have HM4:=hid (show Below w.heap.size w w3∧OB w3 g1 c1 0 A1∧OB w3 g2 c2 0 (oH 0 q.1 A2)∧∀ x ∈ A1++oH 0 q.1 A2,TR LQ w3 (fun k=>(ok k∨w.heap.size≤k)∧k<w3.heap.size∧k ≠ g1) 0 x.2.2 from ⟨HB3.out,oA3,hoB,fun x hx=>(hk3 x hx).more (fun _ _ h=>h) (fun k hk=>⟨hk.1,hk.2.1,hk.2.2.1⟩)⟩)
 go_upto_region 17 with fail
 have HB4:=HB3
 generalize Zo:w3=w4 at *
 clear Zo
 have kpl:=kpk
 clear kpk kqk
 clear hgA hoA hcA ab4 hsA Ph MO hgB hoB hcB ab5 hsB hkB hbB eA eB nA nB gA0 gA2 gB0 gAB hk3 oA3 Dz xx ab1 ab2 kq cqk cpk
 obtain ⟨hm1,hm2,Zv,hm4⟩:=HM4.out
 obtain ⟨g5,c5,w5,hap,FB,ht5,hg5⟩:=O5 (hm2.below (Below.refl _ w4).drew) (Zv.below (Below.refl _ w4).drew) HCC.out.1 (by rw [zG]; have:=GZ.out; omega) GZ.out.2.2.1 121
 have ht5:=(Touch.of_below (l:=[g1]) (Below.refl w4.heap.size w4).drew).trans ht5
 have hg5:g5=g1∨g5=w4.heap.size:=hg5
 have zC:=hid FB
 have Hf:=hid (And.intro ht5 hg5)
 rw [zG] at hap
 obtain ⟨m5,pJ⟩:∃ m,(A1++oH 0 q.1 A2).length=m:=⟨_,rfl⟩
 rw [pJ] at hap
 have xA:=hid pJ
 have Ah:=hid hap
 have h5l:w.heap.size≤g5:=by
  have:=HGG.out.1
  have:=hm1.size
  rcases hg5 with e | e <;> omega
 have hgl:=xw.out.lt
 have rP:=hid (And.intro h5l (And.intro (ae kpl (ht5.block g (block_lt_of_cell kpl) (by have:=HGG.out.1; simp only [List.mem_singleton]; omega))) (show g ≠ g5 by omega)))
 clear hm1 hm2 Zv hm4 FB ht5 hg5 hap h5l hgl pJ
 try simp only [Act.put]
 refine wp_region_noPanic ?_
 refine wp_region_held_drew (S:=fun W=>W.cell? ⟨g,l * 3,none⟩=some (.string p.1)) (by kernel_rfl) kpl (fun hHeld=>?_)
 refine tR 0 96 (h:=tR 1 97 (h:=tR 2 98 (h:=tR 3 99 (h:=tR 4 100 (h:=tR 5 101 (h:=tR 6 102 (h:=tR 7 103 (h:=?_))))))))
 refine tK 8 104 (.string p.1) rfl (Or.inl ⟨by rfl, ?_⟩) ?_
 ·(intro w' hSw; have q0:=hSw; go_simp; try with_reducible rfl)
 try simp only [Act.put,pZ]
 refine tR 9 105 (h:=tR 10 106 (h:=tR 12 108 (h:=?_)))
 refine rD 11 rfl fun K hK=>?_
 refine kG rfl _ _ 121 121 rfl (.slice (some ⟨g1,0,none⟩) A1.length c1) (.slice (some ⟨g2,0,none⟩) A2.length c2) (by rfl) (by rfl) Ah.out ?_
 refine hK.out _ _ (rP.out.2.1) (fun hHeld=>?_)
 clear hK K
 try simp only [Act.put,List.setIfInBounds_toArray]
 refine rD 13 rfl fun K hK=>?_
 go_simp
 go_at_call 91
 refine (HPA.out (fun k=>(ok k∨w.heap.size≤k)∧k<w4.heap.size∧k ≠ g1) g5 c5 A1 A2 GZ.out.1 GZ.out.2.1 w5 zC.out (fun x hx=>(HM4.out.2.2.2 x hx).keep (fun k hk=>Hf.out.1.block k hk.2.1 (by simpa using hk.2.2))) (fun k hk=>⟨Nat.lt_of_lt_of_le hk.2.1 Hf.out.1.size,fun e=>by rcases Hf.out.2 with e2 | e2; exact hk.2.2 (e.trans e2); have:=hk.2.1; omega⟩) m5 xA.out).mono ?_
 rintro e w6 ⟨va,S,rfl,hpr,hst,Pj,_⟩
 have jL:=hid (And.intro hpr (And.intro hst Pj))
 have nS:=hid (ae rP.out.2.1 (Pj.block g (block_lt_of_cell rP.out.2.1) (by simpa using rP.out.2.2)))
 clear hpr hst Pj
 go_wp2_with fail
 refine hK.out _ _ (nS.out) (fun hHeld=>?_)
 clear hK K
 try simp only [Act.put,pZ]
 refine rD 14 rfl fun K hK=>?_
 go_simp
 go_at_call 123
 rw [HW2.out]
 have ab8:Below w.heap.size w w6:=bC (bC HM4.out.1 Hf.out.1 HGG.out.1) jL.out.2.2 rP.out.1
 refine (O8.out w6 (xw.out.move (ab8.block g xw.out.lt)) va S (FN jL.out.2.1 (by have h1:=xw.out.lt; have h2:=rP.out.1; have h3:=Hf.out.1.size; have h4:=HM4.out.1.size; rintro (⟨e | e,_⟩ | e | e); exact (pG.out _ e).2 rfl; omega; omega; omega)) (FM jL.out.1)).mono ?_
 obtain ⟨m7,hm7⟩:∃ m,(a++(S++b)).length=m:=⟨_,rfl⟩
 rw [hm7]
 rintro e w7 ⟨rfl,ho7,yK⟩
 have hfin:=O6 (a:=a) (b:=b) (p:=p) (q:=q) (by rw [HLL.out]; exact xw.out) (by rw [HLL.out]; exact HK.out) pG.out HGG.out.1 HM4.out.1 Hf.out.1 Hf.out.2 jL.out.2.1 jL.out.2.2 yK
 have jh:=hid (show vG LQ ok g c 0 p q a b w (.returned (.tuple #[.slice (some ⟨g,0,none⟩) m7 c,.int .i64 0])) w7 from ⟨A1,A2,S,by rw [hm7],GZ.out.1,GZ.out.2.1,jL.out.1,ho7,hfin.1,hfin.2⟩)
 have QW:=hid (Jm jL.out.1 (fun e=>GZ.out.2.2.1 (List.append_eq_nil_iff.1 e).1) ho7 X7.out.2)
 clear hfin ho7 yK ab8 hm7
 go_wp2_with fail
 refine hK.out _ _ (QW.out) (fun hHeld=>?_)
 clear hK K
 try simp only [Act.put,pZ]
 refine tR 15 8 (h:=tR 16 9 (h:=?_))
 refine wpAnyH_done (by decide +kernel) ?_ _
 refine NoPanic.normal ?_
 go_wp2_with fail
 go_ret2
 exact jh.out
theorem Ud (LQ:ay→aC→Prop)(ok:Nat→Prop)(d t P g c i:Nat)(p q:bM (Kd (d+1)))(a b:Its (d+1))(rt:Value)(f s:ByteArray)(w:World)(hlf:(d == 0)=false)(ht:w.heap[t]? = some (.cells #[.pointer (some ⟨P,0,none⟩),rt] 94 (0,0)))(hr:RD LQ w P)(h:OB w g c (d+1) (a++p::q::b))(hi:a.length=i - 1)(hi2:i≤1000)(hc:(a++p::q::b).length+1≤c)(hc2:c≤1001)
 (hk:∀ x ∈ a++p::q::b,TR LQ w ok (d+1) x.2.2) (hok:∀ k,ok k→k<w.heap.size∧k ≠ g) (hop:qW d (its p.2.2)) (hoq:qW d (its q.2.2))
 (hcp:∀ A,bP d A (its p.2.2)→dD (nR (f,s) (a++p::q::b) a.length) (d == 0) A=A) (hcq:∀ A,bP d A (its q.2.2)→dD (nR (f,s) (a++p::q::b) (a.length+1)) (d == 0) A=A)
 (hM:∀ A B,bP d A (its p.2.2)→bP d B (its q.2.2)→Sm (A++oH d q.1 B)∧bg d (A++oH d q.1 B)≤1000000∧∀ x ∈ A++oH d q.1 B,mZ (d == 0) x≤130) :
 Calls Tryz.prog 125 #[.pointer (some ⟨t,0,none⟩),.slice (some ⟨g,0,none⟩) (a++p::q::b).length c,.int .i64 (i:Nat),.agg #[.string f,.string s]] w fun e w'=>vG LQ ok g c d p q a b w e w':=by
 have Ua:=hid (fun (W:World) (hW:Below w.heap.size w W)=>o6 LQ ok d t P false p.2.2 rt (nR (f,s) (a++p::q::b) a.length).1 (nR (f,s) (a++p::q::b) a.length).2 W ((hW.block t (lt_of_block ht)).trans ht) (hr.below hW) ((hk p (by simp)).below (fun k hk=>(hok k hk).1) hW) (fun k hk=>Nat.lt_of_lt_of_le (hok k hk).1 hW.size) hop hlf hcp)
 have Ub:=hid (fun (W:World) (hW:Below w.heap.size w W)=>o6 LQ ok d t P false q.2.2 rt (nR (f,s) (a++p::q::b) (a.length+1)).1 (nR (f,s) (a++p::q::b) (a.length+1)).2 W ((hW.block t (lt_of_block ht)).trans ht) (hr.below hW) ((hk q (by simp)).below (fun k hk=>(hok k hk).1) hW) (fun k hk=>Nat.lt_of_lt_of_le (hok k hk).1 hW.size) hoq hlf hcq)
 have hcap:=h.cap
 have hlen:(a++p::q::b).length=a.length+2+b.length:=by simp; omega
 have Lm:=hid (fun (W:World) (hW:Below w.heap.size w W)=>oV (d+1) (some ⟨g,0,none⟩) (a++p::q::b).length c a.length (a++p::q::b) f s W (h.is.below hW) (by omega) (by omega))
 have zF:=hid (fun (W:World) (hW:Below w.heap.size w W)=>oV (d+1) (some ⟨g,0,none⟩) (a++p::q::b).length c (a.length+1) (a++p::q::b) f s W (h.is.below hW) (by omega) (by omega))
 have HPA:=hid (fun (ok':Nat→Prop) (g' c':Nat) (A B:Its d) (eA:bP d A (its p.2.2)) (eB:bP d B (its q.2.2)) (W:World) (hO:OB W g' c' d (A++oH d q.1 B)) (hK:∀ x ∈ A++oH d q.1 B,TR LQ W ok' d x.2.2) (hOK:∀ k,ok' k→k<W.heap.size∧k ≠ g') (m:Nat) (hm:(A++oH d q.1 B).length=m)=>O7 (tC LQ ok' d g' c' p.1 (A++oH d q.1 B) W hO hK hOK (hM A B eA eB).1 (hM A B eA eB).2.1 hO.cap (hM A B eA eB).2.2) hm)
 have O8:=hid (fun (W:World) (hW:OB W g c (d+1) (a++p::q::b)) (va:bO) (S:Its (d+1)) (hv:VS W g va S.length (d+1) S) (hS:S.length≤2)=>yA (d+1) g c a.length (a.length+2) S.length va (a++p::q::b) S W hW hv (by omega) (by omega) hc (by omega) (by omega))
 have cp:=(h.at3 a.length p (by simp)).p
 have cpk:=(h.at3 a.length p (by simp)).k
 have hq1:(a++p::q::b)[a.length+1]? = some q:=by rw [List.getElem?_append_right (by omega),show a.length+1 - a.length=1 by omega]; rfl
 have cq:=(h.at3 (a.length+1) q hq1).p
 have cqk:=(h.at3 (a.length+1) q hq1).k
 have Uc:=bT g 0 (a++p::q::b).length c a.length (by omega)
 have Lp:=bT g 0 (a++p::q::b).length c (a.length+1) (by omega)
 simp only [Nat.zero_add] at Uc Lp
 have hmx:∀ (ts:Array TypeId) (T:TypeId) (W:World),(Builtin.max_ ts T #[.int .i64 ((i:Int) - 1),.int .i64 0]).run Tryz.prog W = .ok (.int .i64 (a.length:Int)) W:=fun ts T W=>O0 ts T _ _ _ W (by split <;> omega)
 obtain ⟨ht1,ht2⟩:=take_at a b p q
 rw [ht1,ht2] at O8
 rw [hlf] at HPA
 have xw:=hid h
 have HK:=hid hk
 have pG:=hid hok
 have CZ:=hid hlf
 have HNP:=hid (And.intro hop.some (And.intro hop.len (And.intro hoq.some hoq.len)))
 have hn2:¬ (((a++p::q::b).length:Int)=1):=by omega
 have hnI:((a++p::q::b).length:Int)≤1000:=by omega
 generalize hLL:a++p::q::b=L at *
 have HLL:=hid hLL
 obtain ⟨n,hn⟩:∃ n,L.length=n:=⟨_,rfl⟩
 rw [hn] at Lm zF O8 Uc Lp hn2 hnI hlen hc hcap ⊢
 obtain ⟨l,hl⟩:∃ l,a.length=l:=⟨_,rfl⟩
 rw [hl] at Ua Ub Lm zF O8 cp cpk cq cqk Uc Lp hmx hlen hi
 have lI:(l:Int)+1<(n:Int):=by omega
 have lJ:(l:Int)<(n:Int):=by omega
 have l0:(0:Int)≤(l:Int):=by omega
 have l1:(0:Int)≤(l:Int)+1:=by omega
 have iI:(i:Int)≤1000:=by omega
 have i0:(0:Int)≤(i:Int):=by omega
 have X7:=hid (And.intro hn hl)
 have HW2:=hid (show IntKind.i64.wrap ((l:Int)+1+1)=(l:Int)+1+1 from IntWalk.i64_in _ (by omega))
 rw [show ((l+1:Nat):Int)=(l:Int)+1 by omega] at Lp zF
 rw [show ((l+2:Nat):Int)=(l:Int)+1+1 by omega] at O8
 clear ht hr h hk hok hop hoq hcp hcq hM hlf hq1 ht1 ht2 hLL hn hl hlen hc hcap hi hi2
 go_enter Tryz.func125,Tryz.ntmps125
 go_upto_region 6 with fail
 have HB1:=hid (aJ w (.cells #[.string f,.string s] 96))
 have b0:=cell_of_row (w.alloc (.cells #[.string f,.string s] 96)) w.heap.size 0 _ _ _ (ah w _)
 have b1:=cell_of_row (w.alloc (.cells #[.string f,.string s] 96)) w.heap.size 1 _ _ _ (ah w _)
 generalize hW1:w.alloc (.cells #[.string f,.string s] 96)=w1 at *
 have s0:=b0
 have s1:=b1
 have kp:=ae cp (HB1.out.block _ (block_lt_of_cell cp))
 have abZ:=hid (fun (W:World) (hW:Below w1.heap.size w1 W)=>Ua.out W (aK HB1.out hW))
 have O9:=hid (fun (W:World) (hW:Below w1.heap.size w1 W)=>Lm.out W (aK HB1.out hW))
 clear b0 b1 hW1 Ua Lm cp
 try simp only [Act.put]
 refine wp_region_noPanic ?_
 refine wp_region_held_drew (S:=fun W=>Below w1.heap.size w1 W) (by kernel_rfl) (Below.refl _ w1).drew (fun hHeld=>?_)
 refine tR 0 37 (h:=tR 1 38 (h:=tR 2 39 (h:=tR 3 40 (h:=tR 4 41 (h:=?_)))))
 refine tK 5 42 (.pointer (di (d+1) p.2.2)) rfl (Or.inl ⟨by rfl, ?_⟩) ?_
 ·(intro w' hSw; have q0:=ae kp (hSw.block _ (block_lt_of_cell kp)); go_simp; try with_reducible rfl)
 try simp only [Act.put,pZ]
 refine tK 6 43 (.agg #[.string f,.string s]) rfl (Or.inl ⟨by rfl, ?_⟩) ?_
 ·(intro w' hSw; have q0:=ae s0 (hSw.block _ (block_lt_of_cell s0)); have q1:=ae s1 (hSw.block _ (block_lt_of_cell s1)); go_simp; try with_reducible rfl)
 try simp only [Act.put,pZ]
 refine tR 7 44 (h:=tR 8 45 (h:=?_))
 refine rD 9 rfl fun K hK=>?_
 go_simp
 go_at_call 58
 refine (O9.out w1.drew (Below.refl _ w1).drew).mono ?_
 rintro e v1 ⟨rfl,hbv⟩
 have zH:=hid (show Below w1.heap.size w1 v1 from (Below.refl w1.heap.size w1).drew.trans hbv)
 clear hbv
 go_wp2_with fail
 refine hK.out _ _ (zH.out) (fun hHeld=>?_)
 clear hK K
 try simp only [Act.put,pZ]
 refine rD 10 rfl fun K hK=>?_
 go_simp
 go_at_call 57
 refine (abZ.out v1 zH.out).mono ?_
 rintro e w2 ⟨g1,c1,A1,rfl,hq⟩
 have Dz:=hid hq
 clear hq
 go_wp2_with fail
 refine hK.out _ _ (zH.out.trans (Dz.out.2.2.2.2.2.2.mono zH.out.size)) (fun hHeld=>?_)
 clear hK K
 try simp only [Act.put,pZ]
 refine tR 11 36 (h:=tR 12 48 (h:=tR 13 49 (h:=tR 14 50 (h:=tR 15 12 (h:=tR 16 13 (h:=tR 17 14 (h:=?_)))))))
 refine wpAnyH_done (by decide +kernel) ?_ _
 refine NoPanic.normal ?_
 have HB2:=hid (aK (aK HB1.out zH.out) Dz.out.2.2.2.2.2.2)
 have t0:=ae s0 ((aK zH.out Dz.out.2.2.2.2.2.2).block _ (block_lt_of_cell s0))
 have t1:=ae s1 ((aK zH.out Dz.out.2.2.2.2.2.2).block _ (block_lt_of_cell s1))
 have kq:=ae cq (HB2.out.block _ (block_lt_of_cell cq))
 have ab1:=hid (fun (W:World) (hW:Below w2.heap.size w2 W)=>Ub.out W (aK HB2.out hW))
 have ab2:=hid (fun (W:World) (hW:Below w2.heap.size w2 W)=>zF.out W (aK HB2.out hW))
 clear s0 s1 kp cq Ub zF abZ O9
 go_upto_region 9 with fail
 have s0:=t0
 have s1:=t1
 clear t0 t1
 try simp only [Act.put]
 refine wp_region_noPanic ?_
 refine wp_region_held_drew (S:=fun W=>Below w2.heap.size w2 W) (by kernel_rfl) (Below.refl _ w2).drew (fun hHeld=>?_)
 refine tR 0 55 (h:=tR 1 56 (h:=tR 2 57 (h:=tR 3 58 (h:=tR 4 59 (h:=?_)))))
 refine tK 5 60 (.pointer (di (d+1) q.2.2)) rfl (Or.inl ⟨by rfl, ?_⟩) ?_
 ·(intro w' hSw; have q0:=ae kq (hSw.block _ (block_lt_of_cell kq)); go_simp; try with_reducible rfl)
 try simp only [Act.put,pZ]
 refine tK 6 61 (.agg #[.string f,.string s]) rfl (Or.inl ⟨by rfl, ?_⟩) ?_
 ·(intro w' hSw; have q0:=ae s0 (hSw.block _ (block_lt_of_cell s0)); have q1:=ae s1 (hSw.block _ (block_lt_of_cell s1)); go_simp; try with_reducible rfl)
 try simp only [Act.put,pZ]
 refine tR 7 62 (h:=tR 8 63 (h:=?_))
 refine rD 9 rfl fun K hK=>?_
 go_simp
 go_at_call 58
 refine (ab2.out w2.drew (Below.refl _ w2).drew).mono ?_
 rintro e v2 ⟨rfl,hbv⟩
 have Pg:=hid (show Below w2.heap.size w2 v2 from (Below.refl w2.heap.size w2).drew.trans hbv)
 clear hbv
 go_wp2_with fail
 refine hK.out _ _ (Pg.out) (fun hHeld=>?_)
 clear hK K
 try simp only [Act.put,pZ]
 refine rD 10 rfl fun K hK=>?_
 go_simp
 go_at_call 57
 refine (ab1.out v2 Pg.out).mono ?_
 rintro e w3 ⟨g2,c2,A2,rfl,hq⟩
 have xx:=hid hq
 clear hq
 go_wp2_with fail
 refine hK.out _ _ (Pg.out.trans (xx.out.2.2.2.2.2.2.mono Pg.out.size)) (fun hHeld=>?_)
 clear hK K
 try simp only [Act.put,pZ]
 refine tR 11 54 (h:=tR 12 66 (h:=tR 13 67 (h:=tR 14 68 (h:=tR 15 15 (h:=tR 16 16 (h:=tR 17 14 (h:=?_)))))))
 refine wpAnyH_done (by decide +kernel) ?_ _
 refine NoPanic.normal ?_
 have Lr:=hid (aK Pg.out xx.out.2.2.2.2.2.2)
 have HB3:=hid (aK HB2.out Lr.out)
 have kqk:=ae cqk (HB3.out.block _ (block_lt_of_cell cqk))
 have kpk:=ae cpk (HB3.out.block _ (block_lt_of_cell cpk))
 obtain ⟨hgA,hoA,hcA,ab4,hsA,Ph,MO⟩:=Dz.out
 obtain ⟨hgB,hoB,hcB,ab5,hsB,hkB,hbB⟩:=xx.out
 have eA:A1.length≤512:=by rw [iG hsA]; exact HNP.out.2.1
 have eB:A2.length≤512:=by rw [iG hsB]; exact HNP.out.2.2.2
 have nA:A1 ≠ []:=fun e=>HNP.out.1 (List.length_eq_zero_iff.1 (by rw [← iG hsA,e]; rfl))
 have nB:A2 ≠ []:=fun e=>HNP.out.2.2.1 (List.length_eq_zero_iff.1 (by rw [← iG hsB,e]; rfl))
 have gA0:w.heap.size≤g1:=Nat.le_trans (aK HB1.out zH.out).size hgA
 have gA2:g1<w2.heap.size:=hoA.lt
 have gB0:w2.heap.size≤g2:=Nat.le_trans Pg.out.size hgB
 have gAB:g1 ≠ g2:=by omega
 have hk3:∀ x ∈ A1++A2,TR LQ w3 (fun k=>(ok k∨w.heap.size≤k)∧k<w3.heap.size∧k ≠ g1∧k ≠ g2) d x.2.2:=by
  intro x hx
  rcases List.mem_append.1 hx with hx | hx
  ·refine ((Ph x hx).bound.keep (fun k hk=>Lr.out.block k hk.2)).more (fun _ _ h=>h) (fun k hk=>⟨?_,Nat.lt_of_lt_of_le hk.2 Lr.out.size, ?_,by omega⟩)
   ·rcases hk.1 with e | e
    ·exact .inl e
    ·exact .inr (Nat.le_trans (aK HB1.out zH.out).size e.1)
   ·rcases hk.1 with e | e
    ·have:=(pG.out k e).1; omega
    ·exact e.2
  ·refine (hkB x hx).bound.more (fun _ _ h=>h) (fun k hk=>⟨?_,hk.2, ?_, ?_⟩)
   ·rcases hk.1 with e | e
    ·exact .inl e
    ·exact .inr (Nat.le_trans (aK HB2.out Pg.out).size e.1)
   ·rcases hk.1 with e | e
    ·have:=(pG.out k e).1; omega
    ·have:=Nat.le_trans Pg.out.size e.1; omega
   ·rcases hk.1 with e | e
    ·have:=(pG.out k e).1; have:=HB2.out.size; omega
    ·exact e.2
 have oA3:=hoA.below Lr.out
 have HGG:=hid (And.intro gA0 (And.intro gA2 (And.intro gB0 gAB)))
 have GZ:=hid (And.intro hsA (And.intro hsB (And.intro nA (And.intro eA eB))))
 have HCC:=hid (And.intro ab4 ab5)
 obtain ⟨d,rfl⟩:∃ e,d=e+1:=⟨d - 1,by have:=CZ.out; simp at this; omega⟩
 have Yf:=aT w3 g2 0 (.string q.1)
 have al0:Below w.heap.size w (w3.setCell ⟨g2,0,none⟩ (.string q.1)):=bC HB3.out Yf (Nat.le_trans HB2.out.size gB0)
 have kpl:=ae kpk (Yf.block g (block_lt_of_cell kpk) (by have:=xw.out.lt; have:=HB2.out.size; simp only [List.mem_singleton]; omega))
 have HM4:=hid (show Below w.heap.size w (w3.setCell ⟨g2,0,none⟩ (.string q.1))∧OB (w3.setCell ⟨g2,0,none⟩ (.string q.1)) g1 c1 (d+1) A1∧OB (w3.setCell ⟨g2,0,none⟩ (.string q.1)) g2 c2 (d+1) (oH (d+1) q.1 A2)∧∀ x ∈ A1++oH (d+1) q.1 A2,TR LQ (w3.setCell ⟨g2,0,none⟩ (.string q.1)) (fun k=>(ok k∨w.heap.size≤k)∧k<(w3.setCell ⟨g2,0,none⟩ (.string q.1)).heap.size∧k ≠ g1) (d+1) x.2.2 from by
  refine ⟨al0,oA3.move (Yf.block g1 oA3.lt (by simpa using gAB)),ah9 hoB nB q.1,fun x hx=>?_⟩
  have hkk:∀ x ∈ A1++A2,TR LQ (w3.setCell ⟨g2,0,none⟩ (.string q.1)) (fun k=>(ok k∨w.heap.size≤k)∧k<(w3.setCell ⟨g2,0,none⟩ (.string q.1)).heap.size∧k ≠ g1) (d+1) x.2.2:=fun x hx=>((hk3 x hx).keep (fun k hk=>Yf.block k hk.2.1 (by simpa using hk.2.2.2))).more (fun _ _ h=>h) (fun k hk=>⟨hk.1,Nat.lt_of_lt_of_le hk.2.1 Yf.size,hk.2.2.1⟩)
  rcases List.mem_append.1 hx with hx | hx
  ·exact hkk x (List.mem_append.2 (.inl hx))
  ·exact aia q.1 (fun y hy=>hkk y (List.mem_append.2 (.inr hy))) x hx)
 obtain ⟨x0,hx0⟩:∃ x,A2[0]? = some x:=⟨_,List.getElem?_eq_getElem (List.length_pos_iff.2 nB)⟩
 have z0:=(hoB.at3 0 x0 hx0).k
 obtain ⟨rest,hrow,_⟩:=hoB.row
 have f0:=frozen_of_row w3 g2 0 _ _ hrow
 clear hrow hx0
 simp only [Nat.zero_mul] at z0
 have hz:=bT g2 0 A2.length c2 0 (by have:=List.length_pos_iff.2 nB; omega)
 simp only [Nat.zero_mul,Nat.add_zero] at hz
 have nB0:=List.length_pos_iff.2 nB
 clear al0 Yf
 go_upto_region 17 with fail
 clear kpk kqk hz nB0 z0 f0
 generalize Zo:w3.setCell ⟨g2,0,none⟩ (.string q.1)=w4 at *
 clear Zo
 clear hgA hoA hcA ab4 hsA Ph MO hgB hoB hcB ab5 hsB hkB hbB eA eB nA nB gA0 gA2 gB0 gAB hk3 oA3 Dz xx ab1 ab2 kq cqk cpk
 obtain ⟨hm1,hm2,Zv,hm4⟩:=HM4.out
 obtain ⟨g5,c5,w5,hap,FB,ht5,hg5⟩:=O5 (hm2.below (Below.refl _ w4).drew) (Zv.below (Below.refl _ w4).drew) HCC.out.1 (by rw [zG]; have:=GZ.out; omega) GZ.out.2.2.1 121
 have ht5:=(Touch.of_below (l:=[g1]) (Below.refl w4.heap.size w4).drew).trans ht5
 have hg5:g5=g1∨g5=w4.heap.size:=hg5
 have zC:=hid FB
 have Hf:=hid (And.intro ht5 hg5)
 rw [zG] at hap
 obtain ⟨m5,pJ⟩:∃ m,(A1++oH (d+1) q.1 A2).length=m:=⟨_,rfl⟩
 rw [pJ] at hap
 have xA:=hid pJ
 have Ah:=hid hap
 have h5l:w.heap.size≤g5:=by
  have:=HGG.out.1
  have:=hm1.size
  rcases hg5 with e | e <;> omega
 have hgl:=xw.out.lt
 have rP:=hid (And.intro h5l (And.intro (ae kpl (ht5.block g (block_lt_of_cell kpl) (by have:=HGG.out.1; simp only [List.mem_singleton]; omega))) (show g ≠ g5 by omega)))
 clear hm1 hm2 Zv hm4 FB ht5 hg5 hap h5l hgl pJ
 try simp only [Act.put]
 refine wp_region_noPanic ?_
 refine wp_region_held_drew (S:=fun W=>W.cell? ⟨g,l * 3,none⟩=some (.string p.1)) (by kernel_rfl) kpl (fun hHeld=>?_)
 refine tR 0 96 (h:=tR 1 97 (h:=tR 2 98 (h:=tR 3 99 (h:=tR 4 100 (h:=tR 5 101 (h:=tR 6 102 (h:=tR 7 103 (h:=?_))))))))
 refine tK 8 104 (.string p.1) rfl (Or.inl ⟨by rfl, ?_⟩) ?_
 ·(intro w' hSw; have q0:=hSw; go_simp; try with_reducible rfl)
 try simp only [Act.put,pZ]
 refine tR 9 105 (h:=tR 10 106 (h:=tR 12 108 (h:=?_)))
 refine rD 11 rfl fun K hK=>?_
 refine kG rfl _ _ 121 121 rfl (.slice (some ⟨g1,0,none⟩) A1.length c1) (.slice (some ⟨g2,0,none⟩) A2.length c2) (by rfl) (by rfl) Ah.out ?_
 refine hK.out _ _ (rP.out.2.1) (fun hHeld=>?_)
 clear hK K
 try simp only [Act.put,List.setIfInBounds_toArray]
 refine rD 13 rfl fun K hK=>?_
 go_simp
 go_at_call 91
 refine (HPA.out (fun k=>(ok k∨w.heap.size≤k)∧k<w4.heap.size∧k ≠ g1) g5 c5 A1 A2 GZ.out.1 GZ.out.2.1 w5 zC.out (fun x hx=>(HM4.out.2.2.2 x hx).keep (fun k hk=>Hf.out.1.block k hk.2.1 (by simpa using hk.2.2))) (fun k hk=>⟨Nat.lt_of_lt_of_le hk.2.1 Hf.out.1.size,fun e=>by rcases Hf.out.2 with e2 | e2; exact hk.2.2 (e.trans e2); have:=hk.2.1; omega⟩) m5 xA.out).mono ?_
 rintro e w6 ⟨va,S,rfl,hpr,hst,Pj,_⟩
 have jL:=hid (And.intro hpr (And.intro hst Pj))
 have nS:=hid (ae rP.out.2.1 (Pj.block g (block_lt_of_cell rP.out.2.1) (by simpa using rP.out.2.2)))
 clear hpr hst Pj
 go_wp2_with fail
 refine hK.out _ _ (nS.out) (fun hHeld=>?_)
 clear hK K
 try simp only [Act.put,pZ]
 refine rD 14 rfl fun K hK=>?_
 go_simp
 go_at_call 123
 rw [HW2.out]
 have ab8:Below w.heap.size w w6:=bC (bC HM4.out.1 Hf.out.1 HGG.out.1) jL.out.2.2 rP.out.1
 refine (O8.out w6 (xw.out.move (ab8.block g xw.out.lt)) va S (FN jL.out.2.1 (by have h1:=xw.out.lt; have h2:=rP.out.1; have h3:=Hf.out.1.size; have h4:=HM4.out.1.size; rintro (⟨e | e,_⟩ | e | e); exact (pG.out _ e).2 rfl; omega; omega; omega)) (FM jL.out.1)).mono ?_
 obtain ⟨m7,hm7⟩:∃ m,(a++(S++b)).length=m:=⟨_,rfl⟩
 rw [hm7]
 rintro e w7 ⟨rfl,ho7,yK⟩
 have hfin:=O6 (a:=a) (b:=b) (p:=p) (q:=q) (by rw [HLL.out]; exact xw.out) (by rw [HLL.out]; exact HK.out) pG.out HGG.out.1 HM4.out.1 Hf.out.1 Hf.out.2 jL.out.2.1 jL.out.2.2 yK
 have jh:=hid (show vG LQ ok g c (d+1) p q a b w (.returned (.tuple #[.slice (some ⟨g,0,none⟩) m7 c,.int .i64 0])) w7 from ⟨A1,A2,S,by rw [hm7],GZ.out.1,GZ.out.2.1,jL.out.1,ho7,hfin.1,hfin.2⟩)
 have QW:=hid (Jm jL.out.1 (fun e=>GZ.out.2.2.1 (List.append_eq_nil_iff.1 e).1) ho7 X7.out.2)
 clear hfin ho7 yK ab8 hm7
 go_wp2_with fail
 refine hK.out _ _ (QW.out) (fun hHeld=>?_)
 clear hK K
 try simp only [Act.put,pZ]
 refine tR 15 8 (h:=tR 16 9 (h:=?_))
 refine wpAnyH_done (by decide +kernel) ?_ _
 refine NoPanic.normal ?_
 go_wp2_with fail
 go_ret2
 exact jh.out
theorem Pm (LQ:ay→aC→Prop)(ok:Nat→Prop)(d t P g c i:Nat)(p q:bM (Kd (d+1)))(a b:Its (d+1))(rt:Value)(f s:ByteArray)(w:World)(ht:w.heap[t]? = some (.cells #[.pointer (some ⟨P,0,none⟩),rt] 94 (0,0)))(hr:RD LQ w P)(h:OB w g c (d+1) (a++p::q::b))(hi:a.length=i - 1)(hi2:i≤1000)(hc:(a++p::q::b).length+1≤c)(hc2:c≤1001)
 (hk:∀ x ∈ a++p::q::b,TR LQ w ok (d+1) x.2.2) (hok:∀ k,ok k→k<w.heap.size∧k ≠ g) (hop:qW d (its p.2.2)) (hoq:qW d (its q.2.2))
 (hcp:∀ A,bP d A (its p.2.2)→dD (nR (f,s) (a++p::q::b) a.length) (d == 0) A=A) (hcq:∀ A,bP d A (its q.2.2)→dD (nR (f,s) (a++p::q::b) (a.length+1)) (d == 0) A=A)
 (hM:∀ A B,bP d A (its p.2.2)→bP d B (its q.2.2)→Sm (A++oH d q.1 B)∧bg d (A++oH d q.1 B)≤1000000∧∀ x ∈ A++oH d q.1 B,mZ (d == 0) x≤130) :
 Calls Tryz.prog 125 #[.pointer (some ⟨t,0,none⟩),.slice (some ⟨g,0,none⟩) (a++p::q::b).length c,.int .i64 (i:Nat),.agg #[.string f,.string s]] w fun e w'=>vG LQ ok g c d p q a b w e w':=by
 match h0:(d == 0) with
 | true=>exact Ye LQ ok d t P g c i p q a b rt f s w h0 ht hr h hi hi2 hc hc2 hk hok hop hoq hcp hcq hM
 | false=>exact Ud LQ ok d t P g c i p q a b rt f s w h0 ht hr h hi hi2 hc hc2 hk hok hop hoq hcp hcq hM
end Go.Proofs.YtljjcbmkbmloaaaGreatDoor
